import PyProof.Rows.All
import Wide.All
import OpenK.AllK
import Wide.FinOn
import Lean
import PyProof.EqAt
import PyProof.EqKinds
import PyProof.TupleCall
import PyProof.NeKinds
import PyProof.ListRange
import PyProof.Draws
import PyProof.Rows.SortStr
import KE.KDictSum
import KE.KEqDict
import KE.KDictOf
import KE.KRevSl
import PyProof.StrWalks
import PyProof.StrBlock2
import PyProof.SetKind
import PyProof.SetRoads
import PyProof.Rows.SetFrom
import PyProof.ReprRoads
import PyProof.ReprLen
import PyProof.NsDelKeeps
import PyProof.ListMulRoad
import PyProof.FactsAll.tuple_2
import PySem.Challenge.RW_figurejudge_k32_what_machines_say
set_option Elab.async false
set_option linter.all false
set_option maxRecDepth 100000
namespace L2
open PySem PySem.Spec PyProof.Rows
abbrev Key := Sum Int Str
def keyIs : Key → Value → Bool
  | .inl k, v => Value.isInt k v
  | .inr x, v => Value.isStrOf x v
def keyH (w : World) : Key → Int
  | .inl k => hashInt k
  | .inr x => hashStr w x
theorem keyIs_shape : ∀ {k : Key} {v : Value}, keyIs k v = true → (∃ i t, k = Sum.inl i ∧ v = Value.int i t) ∨ (∃ x t, k = Sum.inr x ∧ v = Value.str x t)
  | .inl i, v, h => by
    obtain ⟨t, e⟩ := Value.isInt_shape (k := i) (v := v) h
    exact .inl ⟨i, t, rfl, e⟩
  | .inr x, v, h => by
    obtain ⟨t, e⟩ := Value.isStrOf_shape (x := x) (v := v) h
    exact .inr ⟨x, t, rfl, e⟩
theorem keyIs_int (i : Int) (t : Tok) : keyIs (.inl i) (.int i t) = true := by simp [keyIs, Value.isInt]
theorem keyIs_str (x : Str) (t : Tok) : keyIs (.inr x) (.str x t) = true := by simp [keyIs, Value.isStrOf]
theorem key_ll (a b : Int) : decide ((Sum.inl a : Key) = Sum.inl b) = (a == b) := by
  by_cases e : a = b
  · subst e; simp
  · have h : ¬ (Sum.inl a : Key) = Sum.inl b := fun q => e (Sum.inl.inj q)
    rw [decide_eq_false h]
    exact (beq_eq_false_iff_ne.mpr e).symm
theorem key_rr (a b : Str) : decide ((Sum.inr a : Key) = Sum.inr b) = decide (a = b) := by
  by_cases e : a = b
  · subst e; simp
  · have h : ¬ (Sum.inr a : Key) = Sum.inr b := fun q => e (Sum.inr.inj q)
    rw [decide_eq_false h, decide_eq_false e]
theorem key_lr (a : Int) (b : Str) : decide ((Sum.inl a : Key) = Sum.inr b) = false := decide_eq_false (fun q => nomatch q)
theorem key_rl (a : Str) (b : Int) : decide ((Sum.inr a : Key) = Sum.inl b) = false := decide_eq_false (fun q => nomatch q)
def mixKind (prog : Program) (w : World) : PySem.KeyKind prog w Key where
  is := keyIs
  hash := keyH w
  inj := fun v a b ha hb => by
    rcases keyIs_shape ha with ⟨i, t, rfl, rfl⟩ | ⟨x, t, rfl, rfl⟩
    · rcases keyIs_shape hb with ⟨j, u, rfl, e⟩ | ⟨y, u, rfl, e⟩
      · injection e with e1 _; rw [e1]
      · exact nomatch e
    · rcases keyIs_shape hb with ⟨j, u, rfl, e⟩ | ⟨y, u, rfl, e⟩
      · exact nomatch e
      · injection e with e1 _; rw [e1]
  byValue := fun k v h => by
    rcases keyIs_shape h with ⟨i, t, rfl, rfl⟩ | ⟨x, t, rfl, rfl⟩ <;> rfl
  pyHash := fun hv h => by
    rcases keyIs_shape hv with ⟨i, t, rfl, rfl⟩ | ⟨x, t, rfl, rfl⟩
    · exact wpAny_pyHash_int h
    · exact wpAny_pyHash_str h
  eqBool := fun hu hv h => by
    rcases keyIs_shape hu with ⟨i, t, rfl, rfl⟩ | ⟨x, t, rfl, rfl⟩
    · rcases keyIs_shape hv with ⟨j, u, rfl, rfl⟩ | ⟨y, u, rfl, rfl⟩
      · rw [key_ll] at h; exact wpAny_eqBool_int h
      · rw [key_lr] at h; exact SeqAt.EqAt.int_str i t y u _ _ _ _ h
    · rcases keyIs_shape hv with ⟨j, u, rfl, rfl⟩ | ⟨y, u, rfl, rfl⟩
      · rw [key_rl] at h; exact SeqAt.EqAt.str_int x t j u _ _ _ _ h
      · rw [key_rr] at h; exact wpAny_eqBool_str h
  «strs» := fun k x t v h => by
    rcases keyIs_shape h with ⟨i, u, rfl, e⟩ | ⟨y, u, rfl, e⟩
    · exact nomatch e
    · injection e with e1 _
      subst e1
      cases v <;> rfl
theorem mixKind_int (prog : Program) (w : World) (i : Int) (t : Tok) : (mixKind prog w).is (.inl i) (.int i t) = true := keyIs_int i t
theorem mixKind_str (prog : Program) (w : World) (x : Str) (t : Tok) : (mixKind prog w).is (.inr x) (.str x t) = true := keyIs_str x t
end L2
namespace L2
open PySem PySem.Spec PyProof.Rows
inductive V where
  | non | bl (b : Bool) | int (i : Int) | str (x : Str) | byt (b : Array UInt8) | flt (b : UInt64) | ref (a : Addr) | ty (n : String)
  deriving DecidableEq
def RelV : V → Value → Prop
  | .non, u => u = Value.none
  | .bl b, u => u = Value.bool b
  | .int i, u => ∃ t, u = Value.int i t
  | .str x, u => ∃ t, u = Value.str x t
  | .byt b, u => ∃ t, u = Value.bytes b t
  | .flt b, u => ∃ t, u = Value.float b t
  | .ref a, u => u = Value.ref a
  | .ty n, u => u = Value.type n
abbrev Vals : List V → List Value → Prop := Paired RelV
theorem Vals.length {xs : List V} {us : List Value} (r : Vals xs us) : xs.length = us.length := Paired.length r
theorem Vals.get : ∀ {xs : List V} {us : List Value} {i : Nat} {x : V}, Vals xs us → xs[i]? = some x → ∃ u, us[i]? = some u ∧ RelV x u
  | _, _, _, _, .nil, e => by simp at e
  | _, _, 0, _, .cons r _, e => by simp at e; subst e; exact ⟨_, rfl, r⟩
  | _, _, i + 1, x, .cons _ t, e => by
    obtain ⟨u, h1, h2⟩ := Vals.get (i := i) (x := x) t (by simpa using e)
    exact ⟨u, by simpa using h1, h2⟩
theorem Vals.set {x : V} {u : Value} (r : RelV x u) : ∀ {xs : List V} {us : List Value} (i : Nat), Vals xs us → Vals (xs.set i x) (us.set i u)
  | _, _, _, .nil => .nil
  | _, _, 0, .cons _ t => .cons r t
  | _, _, i + 1, .cons q t => .cons q (Vals.set r i t)
theorem Vals.append : ∀ {xs ys : List V} {us ws : List Value}, Vals xs us → Vals ys ws → Vals (xs ++ ys) (us ++ ws)
  | _, _, _, _, .nil, s => s
  | _, _, _, _, .cons r t, s => .cons r (Vals.append t s)
theorem Vals.take : ∀ {xs : List V} {us : List Value} (n : Nat), Vals xs us → Vals (xs.take n) (us.take n)
  | _, _, 0, _ => .nil
  | _, _, _ + 1, .nil => .nil
  | _, _, n + 1, .cons r t => .cons r (Vals.take n t)
theorem Vals.drop : ∀ {xs : List V} {us : List Value} (n : Nat), Vals xs us → Vals (xs.drop n) (us.drop n)
  | _, _, 0, r => r
  | _, _, _ + 1, .nil => .nil
  | _, _, n + 1, .cons _ t => Vals.drop n t
def RelO : Option V → Option Value → Prop
  | some v, some u => RelV v u
  | none, none => True
  | _, _ => False
def KV {κ : Type} : List (κ × V) → List (κ × Value) → Prop := Paired fun (p : κ × V) (q : κ × Value) => p.1 = q.1 ∧ RelV p.2 q.2
def kV : Key → V
  | .inl i => .int i
  | .inr x => .str x
inductive HO where
  | lst (xs : List V)
  | tup (xs : List V)
  | dK (kvs : List (Key × V)) | dT (kvs : List (List Key × V))
  | set (S : Int → Bool) (n : Nat)
  | ins (C dx : Addr) (fs : List (Str × V))
  | own (x : Addr)
  | xd (fs : List (Str × V))
  | met (f x : Addr)
  | rng (lo hi : Int)
  | frz (o : Obj) (u : HO)
  | tbl (ps : Array Value)
  | ext (φ : Heap → Prop)
abbrev Hp := Addr → Option HO
def upd (H : Hp) (a : Addr) (o : HO) : Hp := fun b => if b = a then some o else H b
theorem upd_same {H : Hp} {a : Addr} {o : HO} : upd H a o a = some o := by unfold upd; rw [if_pos rfl]
theorem upd_ne {H : Hp} {a b : Addr} {o : HO} (h : b ≠ a) : upd H a o b = H b := by unfold upd; rw [if_neg h]
theorem ne_of {H : Hp} {a b : Addr} {o u : HO} (h : H a = some o) (h' : H b = some u) (d : o ≠ u) : a ≠ b := by
  intro e; subst e; rw [h] at h'; exact d (Option.some.inj h')
theorem ne_of_none {H : Hp} {a b : Addr} {o : HO} (h : H a = some o) (h' : H b = none) : a ≠ b := by
  intro e; subst e; rw [h] at h'; cases h'
section
variable (P : Program) (w : World)
def ObjOk (H : Hp) (h : Heap) (a : Addr) : HO → Prop
  | .lst xs => xs.length ≤ sizeLine ∧ ∃ (its : List Value) (n : Nat), Vals xs its ∧ h.get? a = some { cls := .type "list", data := .seq its.toArray n }
  | .tup xs => xs.length ≤ sizeLine ∧ ∃ its : List Value, Vals xs its ∧ IsTup h a its.toArray
  | .dK kvs => kvs.length ≤ sizeLine ∧ (a == sysModules) = false ∧ ∃ vs, KV kvs vs ∧ h.DictOf (mixKind P w) a vs
  | .dT kvs => kvs.length ≤ sizeLine ∧ (a == sysModules) = false ∧ ∃ xs : List (List Key × Addr × Value),
      Paired (fun (p : List Key × V) (q : List Key × Addr × Value) => p.1 = q.1 ∧ H q.2.1 = some (.tup (p.1.map kV)) ∧ RelV p.2 q.2.2) kvs xs ∧
      ∃ o es ep, h.get? a = some o ∧ o.ExactDict ∧ o.data = .dict es ep ∧ es.toList = xs.map (entryOfKey (tupleKind (mixKind P w))) ∧ (xs.map (·.1)).Nodup
  | .set S n => h.SetOf (intKind P w) a S n
  | .ins C dx fs => H dx = some (.own a) ∧ fs.length ≤ 1000 ∧ dx ≠ a ∧ h.get? a = some (PySem.W.instObj C dx) ∧
      ∃ mA, h.Ns1 dx mA ∧ (∀ f, RelO (fs.lookup f) (mA f)) ∧ PySem.Within mA (fs.map (·.1))
  | .own _ => ∃ o, h.get? a = some o
  | .xd fs => ∃ mA, h.Ns1 a mA ∧ ∀ f, RelO (fs.lookup f) (mA f)
  | .rng lo hi => ∃ t u v, h.get? a = some { cls := .type "range", data := .fields #[.int lo t, .int hi u, .int 1 v] }
  | .frz o u => h.get? a = some o ∧ ObjOk H h a u
  | .tbl ps => h.get? a = some { cls := .none, data := .fields ps }
  | .met f x => h.get? a = some (PySem.W.methodObj (.ref f) (.ref x))
  | .ext φ => φ h ∧ (∃ o, h.get? a = some o) ∧ ∀ h1 h2 : Heap, φ h1 → (∀ o, h1.get? a = some o → h2.get? a = some o) → φ h2
def HOk (H : Hp) (h : Heap) : Prop := ∀ a o, H a = some o → ObjOk P w H h a o
end
section
variable {P : Program} {w : World} {H H' : Hp} {h h' : Heap} {a : Addr} {o : HO}
theorem ObjOk.lt (x : ObjOk P w H h a o) : a < h.objs.size := by
  cases o with
  | lst xs => obtain ⟨_, _, _, _, e⟩ := x; exact Heap.lt_size e
  | tup xs => obtain ⟨_, _, _, p⟩ := x; exact p.lt
  | dK kvs => obtain ⟨_, _, _, _, o, _, _, e, _⟩ := x; exact Heap.lt_size e
  | dT kvs => obtain ⟨_, _, _, _, o, _, _, e, _⟩ := x; exact Heap.lt_size e
  | set S n => obtain ⟨o, _, _, _, e, _⟩ := x; exact Heap.lt_size e
  | ins C dx fs => obtain ⟨_, _, _, e, _⟩ := x; exact Heap.lt_size e
  | own y => obtain ⟨_, e⟩ := x; exact Heap.lt_size e
  | xd fs => obtain ⟨_, ⟨_, _, _, e, _⟩, _⟩ := x; exact Heap.lt_size e
  | rng lo hi => obtain ⟨_, _, _, e⟩ := x; exact Heap.lt_size e
  | frz ob u => obtain ⟨e, _⟩ := x; exact Heap.lt_size e
  | tbl ps => exact Heap.lt_size (show h.get? a = some _ from x)
  | met f y => exact Heap.lt_size (show h.get? a = some _ from x)
  | ext φ => obtain ⟨_, ⟨_, e⟩, _⟩ := x; exact Heap.lt_size e
theorem Paired.mapP {α β : Type} {F G : α → β → Prop} : ∀ {l₁ : List α} {l₂ : List β}, Paired F l₁ l₂ → (∀ a b, F a b → G a b) → Paired G l₁ l₂
  | _, _, .nil, _ => .nil
  | _, _, .cons r t, f => .cons (f _ _ r) (Paired.mapP t f)
theorem ObjOk.stay (x : ObjOk P w H h a o) (k : ∀ b u, (b = a ∨ H b = some (.own a)) → h.get? b = some u → h'.get? b = some u)
    (ho : ∀ b, H b = some (.own a) → H' b = some (.own a)) (ht : ∀ b xs, H b = some (.tup xs) → H' b = some (.tup xs)) : ObjOk P w H' h' a o := by
  induction o with
  | lst xs => obtain ⟨z, its, n, r, e⟩ := x; exact ⟨z, its, n, r, k _ _ (.inl rfl) e⟩
  | tup xs => obtain ⟨z, its, r, ob, e, c⟩ := x; exact ⟨z, its, r, ob, k _ _ (.inl rfl) e, c⟩
  | dK kvs => obtain ⟨z, y, vs, r, ob, es, ep, e, c⟩ := x; exact ⟨z, y, vs, r, ob, es, ep, k _ _ (.inl rfl) e, c⟩
  | dT kvs =>
    obtain ⟨z, y, xs, r, ob, es, ep, e, c⟩ := x
    exact ⟨z, y, xs, Paired.mapP r fun p q z => ⟨z.1, ht _ _ z.2.1, z.2.2⟩, ob, es, ep, k _ _ (.inl rfl) e, c⟩
  | set S n => obtain ⟨ob, es, ep, t, e, c⟩ := x; exact ⟨ob, es, ep, t, k _ _ (.inl rfl) e, c⟩
  | ins C dx fs =>
    obtain ⟨d, z, ne, e, mA, ⟨od, es, ep, e2, c⟩, r⟩ := x
    exact ⟨ho _ d, z, ne, k _ _ (.inl rfl) e, mA, ⟨od, es, ep, k _ _ (.inr d) e2, c⟩, r⟩
  | own y => obtain ⟨ob, e⟩ := x; exact ⟨ob, k _ _ (.inl rfl) e⟩
  | xd fs => obtain ⟨mA, ⟨od, es, ep, e, c⟩, r⟩ := x; exact ⟨mA, ⟨od, es, ep, k _ _ (.inl rfl) e, c⟩, r⟩
  | rng lo hi => obtain ⟨t, u, v, e⟩ := x; exact ⟨t, u, v, k _ _ (.inl rfl) e⟩
  | frz ob u ih => obtain ⟨e, q⟩ := x; exact ⟨k _ _ (.inl rfl) e, ih q⟩
  | tbl ps =>
    have e : h.get? a = some { cls := .none, data := .fields ps } := x
    show h'.get? a = some { cls := .none, data := .fields ps }
    exact k a _ (.inl rfl) e
  | met f y =>
    have e : h.get? a = some (PySem.W.methodObj (.ref f) (.ref y)) := x
    show h'.get? a = some (PySem.W.methodObj (.ref f) (.ref y))
    exact k a _ (.inl rfl) e
  | ext φ => obtain ⟨p, ⟨o, e⟩, st⟩ := x; exact ⟨st _ _ p fun o q => k _ _ (.inl rfl) q, ⟨o, k _ _ (.inl rfl) e⟩, st⟩
theorem HOk.lt (x : HOk P w H h) (e : H a = some o) : a < h.objs.size := (x a o e).lt
theorem HOk.fresh (x : HOk P w H h) (e : h.objs.size ≤ a) : H a = none := by
  cases q : H a with
  | none => rfl
  | some u => exact absurd (Nat.lt_of_lt_of_le (x.lt q) e) (Nat.lt_irrefl _)
theorem HOk.kept (x : HOk P w H h) (k : ∀ b u, h.get? b = some u → h'.get? b = some u) : HOk P w H h' := fun a o e =>
  (x a o e).stay (fun b u _ q => k b u q) (fun _ q => q) fun _ _ q => q
theorem HOk.laid (x : HOk P w H h) (k : ∀ b u, h.get? b = some u → h'.get? b = some u) (hp : h.objs.size ≤ a) (new : ObjOk P w (upd H a o) h' a o) : HOk P w (upd H a o) h' := fun b u e => by
  have hn := x.fresh hp
  by_cases hb : b = a
  · subst hb; rw [upd_same] at e; cases e; exact new
  · rw [upd_ne hb] at e
    exact (x b u e).stay (fun c v _ q => k c v q) (fun c q => by rw [upd_ne (ne_of_none q hn)]; exact q) fun c xs q => by rw [upd_ne (ne_of_none q hn)]; exact q
end
def Rd (H : Hp) (a : Addr) (u : HO) : Prop := H a = some u ∨ ∃ o, H a = some (.frz o u)
theorem Rd.of {H : Hp} {a : Addr} {u : HO} (h : H a = some u) : Rd H a u := .inl h
theorem Rd.ok {P : Program} {w : World} {H : Hp} {h : Heap} {a : Addr} {u : HO} (r : Rd H a u) (x : HOk P w H h) : ObjOk P w H h a u := by
  rcases r with r | ⟨o, r⟩
  · exact x a u r
  · obtain ⟨_, q⟩ := x a _ r
    exact q
def Mut : Option HO → Prop
  | some (.lst _) => True
  | some (.dK _) => True
  | some (.dT _) => True
  | some (.set _ _) => True
  | some (.ins _ _ _) => True
  | some (.ext _) => True
  | _ => False
section
variable {P : Program} {w : World} {H : Hp} {h h' : Heap} {x e : Addr} {o' : HO}
theorem HOk.write (ok : HOk P w H h) (mu : Mut (H x)) (he : e = x ∨ H e = some (.own x)) (k : ∀ b u, b ≠ e → h.get? b = some u → h'.get? b = some u) (heo : ∃ u, h'.get? e = some u)
    (new : ObjOk P w (upd H x o') h' x o') : HOk P w (upd H x o') h' := fun b u q => by
  have nown : ∀ c y, H c = some (.own y) → c ≠ x := fun c y r z => by subst z; rw [r] at mu; exact mu
  have ntup : ∀ c xs, H c = some (.tup xs) → c ≠ x := fun c xs r z => by subst z; rw [r] at mu; exact mu
  by_cases hb : b = x
  · subst hb; rw [upd_same] at q; cases q; exact new
  · rw [upd_ne hb] at q
    by_cases hbe : b = e
    · have q' : H b = some (.own x) := by
        rcases he with z | z
        · exact absurd (hbe.trans z) hb
        · rw [hbe]; exact z
      rw [q] at q'; cases q'
      obtain ⟨v, hv⟩ := heo
      exact ⟨v, by rw [hbe]; exact hv⟩
    · refine (ok b u q).stay (fun c v hc r => k c v ?_ r) (fun c r => by rw [upd_ne (nown c b r)]; exact r) fun c xs r => by rw [upd_ne (ntup c xs r)]; exact r
      rcases hc with rfl | hc
      · exact hbe
      · rintro rfl
        rcases he with z | z
        · exact nown c b hc z
        · rw [hc] at z; cases z; exact hb rfl
end
structure Un (fs ex : List Addr) (H H' : Hp) (h h' : Heap) : Prop where
  keep : ∀ b o, h.get? b = some o → H b = none → b ∉ fs → b ∉ ex → h'.get? b = some o
  slot : ∀ b o, h.get? b = some o → H b = none → b ∈ fs → b ∉ ex → ∃ sl, h'.get? b = some { o with slots := sl }
  free : ∀ b o, h.get? b = some o → H b = none → b ∉ ex → H' b = none
  there : ∀ b o, h.get? b = some o → b ∉ ex → ∃ o', h'.get? b = some o'
  tups : ∀ b xs, H b = some (.tup xs) → H' b = some (.tup xs)
  frzs : ∀ b o u, H b = some (.frz o u) → H' b = some (.frz o u)
  tbls : ∀ b ps, H b = some (.tbl ps) → ∃ more, H' b = some (.tbl (ps ++ more))
section
variable {fs fs' ex ex' : List Addr} {H H1 H2 : Hp} {h h1 h2 h' : Heap} {a x e : Addr} {o : HO}
theorem Un.any (u : Un fs ex H H1 h h1) {b : Addr} {ob : Obj} (q : h.get? b = some ob) (n : H b = none) (hx : b ∉ ex) : ∃ sl, h1.get? b = some { ob with slots := sl } := by
  by_cases hb : b ∈ fs
  · exact u.slot b ob q n hb hx
  · exact ⟨ob.slots, u.keep b ob q n hb hx⟩
theorem Un.trans (a : Un fs ex H H1 h h1) (b : Un fs ex H1 H2 h1 h2) : Un fs ex H H2 h h2 where
  keep := fun c ob q n hc hx => b.keep c ob (a.keep c ob q n hc hx) (a.free c ob q n hx) hc hx
  slot := fun c ob q n hc hx => by
    obtain ⟨sl, e1⟩ := a.slot c ob q n hc hx
    obtain ⟨sl', e2⟩ := b.slot c _ e1 (a.free c ob q n hx) hc hx
    exact ⟨sl', e2⟩
  free := fun c ob q n hx => by
    obtain ⟨o', e1⟩ := a.there c ob q hx
    exact b.free c o' e1 (a.free c ob q n hx) hx
  there := fun c ob q hx => by
    obtain ⟨o', e1⟩ := a.there c ob q hx
    exact b.there c o' e1 hx
  tups := fun c xs q => b.tups c xs (a.tups c xs q)
  frzs := fun c ob xs q => b.frzs c ob xs (a.frzs c ob xs q)
  tbls := fun c ps q => by
    obtain ⟨m1, e1⟩ := a.tbls c ps q
    obtain ⟨m2, e2⟩ := b.tbls c _ e1
    exact ⟨m1 ++ m2, by rw [e2, Array.append_assoc]⟩
theorem Un.kept (k : ∀ b u, h.get? b = some u → h'.get? b = some u) : Un fs ex H H h h' :=
  ⟨fun b ob q _ _ _ => k b ob q, fun b ob q _ _ _ => ⟨ob.slots, k b ob q⟩, fun _ _ _ n _ => n, fun b ob q _ => ⟨ob, k b ob q⟩, fun _ _ q => q, fun _ _ _ q => q, fun _ ps q => ⟨#[], by rw [q]; simp⟩⟩
theorem Un.refl : Un fs ex H H h h := Un.kept fun _ _ q => q
theorem Un.laid (k : ∀ b u, h.get? b = some u → h'.get? b = some u) (hp : h.objs.size ≤ a) (hn : H a = none) : Un fs ex H (upd H a o) h h' where
  keep := fun b u q _ _ _ => k b u q
  slot := fun b u q _ _ _ => ⟨u.slots, k b u q⟩
  free := fun b u q n _ => by rw [upd_ne (Nat.ne_of_lt (Nat.lt_of_lt_of_le (Heap.lt_size q) hp))]; exact n
  there := fun b u q _ => ⟨u, k b u q⟩
  tups := fun b xs q => by rw [upd_ne (ne_of_none q hn)]; exact q
  frzs := fun b u xs q => by rw [upd_ne (ne_of_none q hn)]; exact q
  tbls := fun b ps q => ⟨#[], by rw [upd_ne (ne_of_none q hn), q]; simp⟩
theorem Un.write (mu : Mut (H x)) (he : e = x ∨ H e = some (.own x)) (k : ∀ b u, b ≠ e → h.get? b = some u → h'.get? b = some u) (heo : ∃ u, h'.get? e = some u) : Un fs ex H (upd H x o) h h' := by
  have hx : ∀ b, H b = none → b ≠ x := fun b n z => by subst z; rw [n] at mu; exact mu
  have hb : ∀ b, H b = none → b ≠ e := fun b n z => by
    subst z
    rcases he with r | r
    · exact hx b n r
    · rw [n] at r; cases r
  have hm : ∀ b u, H b = some u → ¬ Mut (some u) → b ≠ x := fun b u q nm z => by subst z; rw [q] at mu; exact nm mu
  refine ⟨fun b u q n _ _ => k b u (hb b n) q, fun b u q n _ _ => ⟨u.slots, k b u (hb b n) q⟩, fun b u q n _ => by rw [upd_ne (hx b n)]; exact n, fun b u q _ => ?_,
    fun b xs q => by rw [upd_ne (hm b _ q fun z => z)]; exact q, fun b u xs q => by rw [upd_ne (hm b _ q fun z => z)]; exact q, fun b ps q => ⟨#[], by rw [upd_ne (hm b _ q fun z => z), q]; simp⟩⟩
  by_cases hbe : b = e
  · subst hbe; exact heo
  · exact ⟨u, k b u hbe q⟩
theorem Un.mono (u : Un fs ex H H1 h h1) (hs : ∀ b ∈ fs, b ∈ fs') (hx : ∀ b ∈ ex, b ∈ ex') : Un fs' ex' H H1 h h1 :=
  ⟨fun b ob q n hb he => u.keep b ob q n (fun z => hb (hs b z)) fun z => he (hx b z), fun _ _ q n _ he => u.any q n fun z => he (hx _ z), fun b ob q n he => u.free b ob q n fun z => he (hx b z), fun b ob q he => u.there b ob q fun z => he (hx b z), u.tups, u.frzs, u.tbls⟩
end
def trk (h : Heap) (H : Hp) : List Addr := (List.range h.objs.size).filter fun a => (H a).isSome
def hidT (h : Heap) (H : Hp) : Heap := PySem.W.hideAll h (trk h H)
theorem hidT_size (h : Heap) (H : Hp) : (hidT h H).objs.size = h.objs.size := PySem.W.hideAll_size _ _
theorem hidT_get {h : Heap} {H : Hp} {b : Addr} {o : Obj} (e : h.get? b = some o) (n : H b = none) : (hidT h H).get? b = some o :=
  PySem.W.hideAll_get _ e fun hm => by
    have q : (H b).isSome = true := (List.mem_filter.mp hm).2
    rw [n] at q; simp at q
theorem of_hidT {h : Heap} {H : Hp} {b : Addr} {o : Obj} (e : (hidT h H).get? b = some o) : h.get? b = some o ∧ H b = none := by
  have e' : h.get? b = some o := PySem.W.of_hideAll (trk h H) e
  refine ⟨e', ?_⟩
  cases q : H b with
  | none => rfl
  | some x =>
    have hm : b ∈ trk h H := List.mem_filter.mpr ⟨List.mem_range.mpr (Heap.lt_size e'), by simp [q]⟩
    have z : (hidT h H).get? b = none := PySem.W.hideAll_none (trk h H) hm
    rw [z] at e; cases e
def allNews (g h : Heap) (L : Addr) : List (Addr × Obj) := (List.range h.objs.size).filterMap fun a => if a = L ∨ (g.get? a).isSome = true then none else (h.get? a).map fun o => (a, o)
def rest (g h : Heap) (L d : Addr) : List (Addr × Obj) := (allNews g h L).filter fun p => decide (p.1 ≠ d)
end L2
namespace L2
open PySem PySem.Spec PyProof.Rows
structure Mod (K : PySem.W.Frag) (mg : Str → Option Value) (base : Heap) : Prop where
  kin : K.In base
  glob : base.Ns mainGlobals mg
  blt : ∃ mb, base.Ns builtinsNs mb ∧ ∀ x : Str, x ≠ "__name__" → mb x = bootBuiltins x
  nolimit : base.NoLimit
structure Cx where
  prog : Program
  w : World
  K : PySem.W.Frag
  mg : Str → Option Value
  base : Heap
  A : Around
  N : List Str
  s₀ : Shared
  H₀ : Hp
  env : Env
  outer : List Env
  stack : List Env
  ex : List Addr
  fn : Str → Bool
  calm : Bool
  pn : List (Addr × Obj)
  xe : Value → Shared → Prop
def frs (l : List Env) : List Addr := l.filterMap (·.frame)
abbrev Cx.fs (X : Cx) : List Addr := frs X.outer
def Vis (sc : Scope) (x : Str) : Prop := sc.names.lookup x = some .local ∨ sc.names.lookup x = some .cell ∨ sc.names.lookup x = some .free
def Loc (sc : Scope) (x : Str) : Prop := sc.names.lookup x = some .local ∨ sc.names.lookup x = some .cell
def Look (env : Env) (h : Heap) (m : Str → Option Value) (x : Str) (u : Value) : Prop :=
  (env.kindOf x = some .local ∧ m x = some u) ∨ ((env.kindOf x = some .cell ∨ env.kindOf x = some .free) ∧ ∃ c, env.cells.lookup x = some c ∧ h.IsCell c (some u))
structure Cx.Ok (X : Cx) : Prop where
  mod : Mod X.K X.mg X.base
  kind : X.env.scope.kind = .function
  glob : X.env.globals = mainGlobals
  blt : X.env.builtins = builtinsNs
  above : X.s₀.heap.objs.size ≤ X.env.locals
  inj : ∀ x y c, X.env.cells.lookup x = some c → X.env.cells.lookup y = some c → x = y
  has : ∀ x, (X.env.kindOf x = some .cell ∨ X.env.kindOf x = some .free) → ∃ c, X.env.cells.lookup x = some c
  cab : ∀ x c, X.fn x = true → X.env.cells.lookup x = some c → X.s₀.heap.objs.size ≤ c
  hd : X.calm = true → X.A.handled = none
  frames : X.A.frames = some X.stack
  stk : X.stack = X.outer ∨ (X.stack = X.env :: X.outer ∧ X.env.frame = some X.env.locals)
  exf : ∀ b ∈ X.ex, b ≠ X.env.locals ∧ ∀ x c, X.env.cells.lookup x = some c → c ≠ b
  bs : ∀ b o, X.base.get? b = some o → X.s₀.heap.get? b = some o ∧ X.H₀ b = none
  bsz : X.base.objs.size ≤ X.s₀.heap.objs.size
  noex : ∀ b o, X.base.get? b = some o → b ∉ X.ex
  exfs : ∀ b ∈ X.ex, b ∉ X.fs
  funs : X.s₀.heap.FunFrames X.base X.outer
  frf : ∀ b ∈ X.fs, X.H₀ b = none
structure Inv (X : Cx) (pins : List (Addr × Obj)) (σ : List (Option V)) (H : Hp) (s : Shared) : Prop where
  ok : X.Ok
  os : s.os = X.s₀.os
  bare : AllBare s.gens
  base : Un X.fs X.ex X.H₀ H X.s₀.heap s.heap
  loc : ∃ m, s.heap.Ns X.env.locals m ∧ ∀ (i : Nat) (x : Str) (v : V), X.N[i]? = some x → σ[i]? = some (some v) → Vis X.env.scope x → ∃ u, RelV v u ∧ Look X.env s.heap m x u
  cell : ∀ x c, X.env.cells.lookup x = some c → ∃ v, s.heap.IsCell c v
  free : H X.env.locals = none
  freeC : ∀ x c, X.env.cells.lookup x = some c → H c = none
  pin : ∀ p ∈ X.pn ++ pins, s.heap.get? p.1 = some p.2 ∧ H p.1 = none ∧ p.1 ≠ X.env.locals ∧ p.1 ∉ X.fs ∧ ∀ v, p.2.data ≠ .cell v
  hok : HOk X.prog X.w H s.heap
  len : σ.length = X.N.length
section
variable {X : Cx} {pins : List (Addr × Obj)} {σ : List (Option V)} {H H' : Hp} {s : Shared} {h' : Heap}
theorem Cx.Ok.nofr (ok : X.Ok) {b : Addr} {o : Obj} (e : X.base.get? b = some o) : b ∉ X.fs := fun hb => by
  have := (ok.funs.mem hb).1
  rw [e] at this; cases this
theorem Inv.bs (I : Inv X pins σ H s) : ∀ b o, X.base.get? b = some o → s.heap.get? b = some o ∧ H b = none := fun b o e =>
  ⟨I.base.keep b o (I.ok.bs b o e).1 (I.ok.bs b o e).2 (I.ok.nofr e) (I.ok.noex b o e), I.base.free b o (I.ok.bs b o e).1 (I.ok.bs b o e).2 (I.ok.noex b o e)⟩
theorem Inv.bk (I : Inv X pins σ H s) : ∀ b o, X.base.get? b = some o → s.heap.get? b = some o := fun b o e => (I.bs b o e).1
theorem Inv.mod (I : Inv X pins σ H s) : Mod X.K X.mg X.base := I.ok.mod
theorem Inv.kIn (I : Inv X pins σ H s) : X.K.In s.heap := I.ok.mod.kin.keeps I.bk
theorem Inv.nolimit (I : Inv X pins σ H s) : s.heap.NoLimit := I.ok.mod.nolimit.keeps I.bk
theorem Inv.lt (I : Inv X pins σ H s) : X.env.locals < s.heap.objs.size := let ⟨_, hn, _⟩ := I.loc; hn.lt
theorem Inv.sz (I : Inv X pins σ H s) : X.s₀.heap.objs.size ≤ s.heap.objs.size := Nat.le_trans I.ok.above (Nat.le_of_lt I.lt)
theorem Inv.nofs (I : Inv X pins σ H s) {a : Addr} (h : s.heap.objs.size ≤ a) : a ∉ X.fs := fun hb => by
  obtain ⟨_, o, ho, _⟩ := I.ok.funs.mem hb
  exact absurd (Nat.lt_of_lt_of_le (Heap.lt_size ho) (Nat.le_trans I.sz h)) (Nat.lt_irrefl _)
theorem Inv.cne (I : Inv X pins σ H s) : ∀ x c, X.env.cells.lookup x = some c → c ≠ X.env.locals := fun x c e z => by
  obtain ⟨v, o, ho, hd⟩ := I.cell x c e
  obtain ⟨m, ⟨o', es, ep, ho', hd', _⟩, _⟩ := I.loc
  rw [z, ho'] at ho; cases ho; rw [hd'] at hd; cases hd
theorem Inv.funs (I : Inv X pins σ H s) : s.heap.FunFrames X.base X.outer := by
  have all : ∀ (l : List Env), (∀ b ∈ frs l, b ∈ X.fs) → X.s₀.heap.FunFrames X.base l → s.heap.FunFrames X.base l := by
    intro l
    induction l with
    | nil => intro _ _; trivial
    | cons env r ih =>
      intro hs hl
      obtain ⟨hk, ⟨L, o, hf, hn, ho, hd⟩, hr⟩ := hl
      have hL : L ∈ X.fs := hs L (by unfold frs; rw [List.filterMap_cons, hf]; exact List.mem_cons_self)
      obtain ⟨sl, e⟩ := I.base.slot L o ho (I.ok.frf L hL) hL fun z => I.ok.exfs L z hL
      exact ⟨hk, ⟨L, _, hf, hn, e, hd⟩, ih (fun b hb => hs b (by unfold frs; rw [List.filterMap_cons, hf]; exact List.mem_cons_of_mem _ hb)) hr⟩
  exact all X.outer (fun _ hb => hb) I.ok.funs
theorem Inv.stack (I : Inv X pins σ H s) : s.heap.FunFrames X.base X.stack := by
  rcases I.ok.stk with e | ⟨e, hf⟩
  · rw [e]; exact I.funs
  · rw [e]
    obtain ⟨m, hn, _⟩ := I.loc
    refine .cons (by rw [I.ok.kind]; decide) hf hn ?_ I.funs
    exact Heap.get?_none_of_le (Nat.le_trans I.ok.bsz I.ok.above)
theorem Inv.stkSub (I : Inv X pins σ H s) : ∀ b ∈ frs X.stack, b ∈ X.env.locals :: X.fs := fun b hb => by
  rcases I.ok.stk with e | ⟨e, hf⟩
  · rw [e] at hb; exact List.mem_cons_of_mem _ hb
  · rw [e] at hb
    unfold frs at hb
    rw [List.filterMap_cons, hf] at hb
    exact hb
theorem Inv.stkFree (I : Inv X pins σ H s) : ∀ b ∈ frs X.stack, H b = none := fun b hb => by
  rcases List.mem_cons.mp (I.stkSub b hb) with e | hb
  · rw [e]; exact I.free
  · obtain ⟨_, o, ho, _⟩ := I.ok.funs.mem hb
    exact I.base.free b o ho (I.ok.frf b hb) fun z => I.ok.exfs b z hb
theorem Inv.step {g' : Array GenState} {t' : Nat} {d' : Drawn} {ch : List Addr} (I : Inv X pins σ H s)
    (hch : ∀ b ∈ ch, (b ∈ X.ex ∨ X.s₀.heap.objs.size ≤ b) ∧ b ≠ X.env.locals ∧ (∀ x c, X.env.cells.lookup x = some c → c ≠ b) ∧ ∀ p ∈ X.pn ++ pins, p.1 ≠ b)
    (keep : ∀ b o, b ≠ X.env.locals → b ∉ X.fs → b ∉ ch → s.heap.get? b = some o → H b = none → h'.get? b = some o)
    (slot : ∀ b o, b ≠ X.env.locals → b ∈ X.fs → b ∉ ch → s.heap.get? b = some o → H b = none → ∃ sl, h'.get? b = some { o with slots := sl }) (free : ∀ b o, b ∉ ch → s.heap.get? b = some o → H b = none → H' b = none)
    (there : ∀ b o, b ∉ ch → s.heap.get? b = some o → ∃ o', h'.get? b = some o')
    (tups : ∀ b xs, H b = some (.tup xs) → H' b = some (.tup xs)) (frzs : ∀ b o u, H b = some (.frz o u) → H' b = some (.frz o u)) (tbls : ∀ b ps, H b = some (.tbl ps) → ∃ more, H' b = some (.tbl (ps ++ more)))
    (ns : ∀ m, s.heap.Ns X.env.locals m → h'.Ns X.env.locals m) (hok : HOk X.prog X.w H' h') (hg : AllBare g') :
    Inv X pins σ H' { s with heap := h', gens := g', drawn := d', toks := t' } := by
  have neL : ∀ b o, X.s₀.heap.get? b = some o → b ≠ X.env.locals := fun b o e => Nat.ne_of_lt (Nat.lt_of_lt_of_le (Heap.lt_size e) I.ok.above)
  have neC : ∀ b o, X.s₀.heap.get? b = some o → b ∉ X.ex → b ∉ ch := fun b o e hx hb => by
    rcases (hch b hb).1 with z | z
    · exact hx z
    · exact absurd (Nat.lt_of_lt_of_le (Heap.lt_size e) z) (Nat.lt_irrefl _)
  have cellK : ∀ x c, X.env.cells.lookup x = some c → ∀ v, s.heap.IsCell c v → h'.IsCell c v := fun x c e v ⟨o, ho, hd⟩ => by
    have nch : c ∉ ch := fun z => (hch c z).2.2.1 x c e rfl
    by_cases hc : c ∈ X.fs
    · obtain ⟨sl, q⟩ := slot c o (I.cne x c e) hc nch ho (I.freeC x c e)
      exact ⟨_, q, hd⟩
    · exact ⟨o, keep c o (I.cne x c e) hc nch ho (I.freeC x c e), hd⟩
  refine ⟨I.ok, I.os, hg, ⟨fun b o e n hb hx => ?_, fun b o e n hb hx => ?_, fun b o e n hx => ?_, fun b o e hx => ?_, fun b xs e => tups b xs (I.base.tups b xs e), fun b o xs e => frzs b o xs (I.base.frzs b o xs e), fun b ps e => ?_⟩, ?_, fun x c e => ?_, ?_, fun x c e => ?_, fun p hp => ?_, hok, I.len⟩
  · exact keep b o (neL b o e) hb (neC b o e hx) (I.base.keep b o e n hb hx) (I.base.free b o e n hx)
  · obtain ⟨sl, e1⟩ := I.base.slot b o e n hb hx
    obtain ⟨sl', e2⟩ := slot b _ (neL b o e) hb (neC b o e hx) e1 (I.base.free b o e n hx)
    exact ⟨sl', e2⟩
  · obtain ⟨o', e1⟩ := I.base.there b o e hx
    exact free b o' (neC b o e hx) e1 (I.base.free b o e n hx)
  · obtain ⟨o', e1⟩ := I.base.there b o e hx
    exact there b o' (neC b o e hx) e1
  · obtain ⟨m1, e1⟩ := I.base.tbls b ps e
    obtain ⟨m2, e2⟩ := tbls b _ e1
    exact ⟨m1 ++ m2, by rw [e2, Array.append_assoc]⟩
  · obtain ⟨m, hn, hl⟩ := I.loc
    refine ⟨m, ns m hn, fun i x v e1 e2 e3 => ?_⟩
    obtain ⟨u, r, l⟩ := hl i x v e1 e2 e3
    refine ⟨u, r, ?_⟩
    rcases l with l | ⟨k, c, e, z⟩
    · exact .inl l
    · exact .inr ⟨k, c, e, cellK x c e _ z⟩
  · obtain ⟨v, z⟩ := I.cell x c e
    exact ⟨v, cellK x c e v z⟩
  · obtain ⟨m, ⟨o, _, _, ho, _⟩, _⟩ := I.loc
    exact free _ o (fun z => (hch _ z).2.1 rfl) ho I.free
  · obtain ⟨v, o, ho, hd⟩ := I.cell x c e
    exact free c o (fun z => (hch c z).2.2.1 x c e rfl) ho (I.freeC x c e)
  · obtain ⟨e, n, ne, nf, d⟩ := I.pin p hp
    have nch : p.1 ∉ ch := fun z => (hch p.1 z).2.2.2 p hp rfl
    exact ⟨keep p.1 p.2 ne nf nch e n, free p.1 p.2 nch e n, ne, nf, d⟩
theorem Inv.un {t' : Nat} (I : Inv X pins σ H s) (u : Un X.fs [] H H' s.heap h') (hok : HOk X.prog X.w H' h') : Inv X pins σ H' { s with heap := h', toks := t' } := by
  obtain ⟨m, ⟨o, es, ep, ho, r⟩, _⟩ := id I.loc
  obtain ⟨sl, hL⟩ := u.any ho I.free (by simp)
  exact I.step (g' := s.gens) (d' := s.drawn) (ch := []) (fun _ z => nomatch z) (fun b o _ hb _ e n => u.keep b o e n hb (by simp)) (fun b o _ hb _ e n => u.slot b o e n hb (by simp)) (fun b o _ e n => u.free b o e n (by simp)) (fun b o _ e => u.there b o e (by simp)) u.tups u.frzs u.tbls (fun m' hm => by
    obtain ⟨o', es', ep', ho', r'⟩ := hm
    rw [ho] at ho'; cases ho'
    exact ⟨_, es', ep', hL, r'⟩) hok I.bare
theorem Inv.call {g' : Array GenState} {t' : Nat} {d' : Drawn} {ch : List Addr} (I : Inv X pins σ H s) (u : Un (frs X.stack) ch H H' s.heap h') (hok : HOk X.prog X.w H' h') (hg : AllBare g')
    (hch : ∀ b ∈ ch, (b ∈ X.ex ∨ X.s₀.heap.objs.size ≤ b) ∧ b ≠ X.env.locals ∧ (∀ x c, X.env.cells.lookup x = some c → c ≠ b) ∧ ∀ p ∈ X.pn ++ pins, p.1 ≠ b) :
    Inv X pins σ H' { s with heap := h', gens := g', drawn := d', toks := t' } := by
  obtain ⟨m, ⟨o, es, ep, ho, r⟩, _⟩ := id I.loc
  obtain ⟨sl, hL⟩ := u.any ho I.free fun z => (hch _ z).2.1 rfl
  exact I.step (ch := ch) hch (fun b o hL hb hc e n => u.keep b o e n (fun z => (List.mem_cons.mp (I.stkSub b z)).elim hL hb) hc) (fun b o _ _ hc e n => u.any e n hc) (fun b o hc e n => u.free b o e n hc) (fun b o hc e => u.there b o e hc) u.tups u.frzs u.tbls (fun m' hm => by
    obtain ⟨o', es', ep', ho', r'⟩ := hm
    rw [ho] at ho'; cases ho'
    exact ⟨_, es', ep', hL, r'⟩) hok hg
theorem Inv.turned {t' : Nat} {it : Addr} (I : Inv X pins σ H s) (k : ∀ b o, b ≠ it → s.heap.get? b = some o → h'.get? b = some o) (hn : H it = none) (hL : it ≠ X.env.locals)
    (h1 : it ∈ X.ex ∨ X.s₀.heap.objs.size ≤ it) (h2 : ∀ x c, X.env.cells.lookup x = some c → c ≠ it) (h3 : ∀ p ∈ X.pn ++ pins, p.1 ≠ it) : Inv X pins σ H { s with heap := h', toks := t' } := by
  have nit : ∀ b u, H b = some u → b ≠ it := fun b u e z => by rw [z, hn] at e; cases e
  refine I.step (g' := s.gens) (d' := s.drawn) (ch := [it]) (fun b hb => ?_) (fun b o _ _ hc e _ => k b o (fun z => hc (by simp [z])) e) (fun b o _ _ hc e _ => ⟨o.slots, k b o (fun z => hc (by simp [z])) e⟩) (fun _ _ _ _ n => n)
    (fun b o hc e => ⟨o, k b o (fun z => hc (by simp [z])) e⟩) (fun _ _ e => e) (fun _ _ _ e => e) (fun b ps e => ⟨#[], by rw [e]; simp⟩) (fun m hm => ?_) (fun b u e => ?_) I.bare
  · have e : b = it := by simpa using hb
    subst e
    exact ⟨h1, hL, h2, h3⟩
  · obtain ⟨o, es, ep, ho, r⟩ := hm
    exact ⟨o, es, ep, k _ o (Ne.symm hL) ho, r⟩
  · refine (I.hok b u e).stay (fun c v hc q => k c v ?_ q) (fun _ q => q) fun _ _ q => q
    rcases hc with z | z
    · rw [z]; exact nit b u e
    · exact nit c _ z
theorem Inv.tok (I : Inv X pins σ H s) (t : Nat) : Inv X pins σ H { s with toks := t } := I.un (h' := s.heap) (t' := t) Un.refl I.hok
theorem Inv.kept {t' : Nat} (I : Inv X pins σ H s) (k : ∀ b u, s.heap.get? b = some u → h'.get? b = some u) : Inv X pins σ H { s with heap := h', toks := t' } := I.un (Un.kept k) (I.hok.kept k)
theorem Inv.laid {a : Addr} {o : HO} {t' : Nat} (I : Inv X pins σ H s) (k : ∀ b u, s.heap.get? b = some u → h'.get? b = some u) (hp : s.heap.objs.size ≤ a) (new : ObjOk X.prog X.w (upd H a o) h' a o) :
    Inv X pins σ (upd H a o) { s with heap := h', toks := t' } := I.un (Un.laid k hp (I.hok.fresh hp)) (I.hok.laid k hp new)
theorem Inv.write {x e : Addr} {o : HO} {t' : Nat} (I : Inv X pins σ H s) (mu : Mut (H x)) (he : e = x ∨ H e = some (.own x)) (k : ∀ b u, b ≠ e → s.heap.get? b = some u → h'.get? b = some u) (heo : ∃ u, h'.get? e = some u)
    (new : ObjOk X.prog X.w (upd H x o) h' x o) : Inv X pins σ (upd H x o) { s with heap := h', toks := t' } := I.un (Un.write mu he k heo) (I.hok.write mu he k heo new)
theorem Inv.pins_of {pins' : List (Addr × Obj)} (I : Inv X pins σ H s) (h : ∀ p ∈ pins', s.heap.get? p.1 = some p.2 ∧ H p.1 = none ∧ p.1 ≠ X.env.locals ∧ p.1 ∉ X.fs ∧ ∀ v, p.2.data ≠ .cell v) : Inv X pins' σ H s :=
  ⟨I.ok, I.os, I.bare, I.base, I.loc, I.cell, I.free, I.freeC, fun p hp => (List.mem_append.mp hp).elim (fun z => I.pin p (List.mem_append_left _ z)) (h p), I.hok, I.len⟩
theorem nodup_ix {N : List Str} (hN : N.Nodup) {i j : Nat} {x : Str} (a : N[i]? = some x) (b : N[j]? = some x) : i = j := by
  obtain ⟨h1, e1⟩ := List.getElem?_eq_some_iff.mp a
  obtain ⟨h2, e2⟩ := List.getElem?_eq_some_iff.mp b
  exact (List.getElem_inj hN).mp (e1.trans e2.symm)
theorem store_ok2 {M : Model} {A : Around} {E : Value → Shared → Prop} {i : Nat} {x : Str} {v : V} {u : Value} {Q : Unit → Shared → Prop} (I : Inv X pins σ H s) (hN : X.N.Nodup) (hi : X.N[i]? = some x) (hx : Loc X.env.scope x) (r : RelV v u)
    (h : ∀ s', Inv X pins (σ.set i (some v)) H s' → (∃ a, Heap.SameBut a s.heap s'.heap ∧ (a = X.env.locals ∨ X.env.cells.lookup x = some a)) → Q () s') (hf : X.fn x = true ∨ X.env.scope.names.lookup x = some .local := by first | exact .inl rfl | exact .inr rfl | assumption) : wpAny M A (storeName X.env x u) Q E s := by
  obtain ⟨m, hn, hl⟩ := id I.loc
  have hcls : (X.env.scope.kind == .class || (X.env.scope.kind == .module && X.env.locals != X.env.globals)) = false := by rw [I.ok.kind]; rfl
  have hiσ : i < σ.length := by rw [I.len]; exact (List.getElem?_eq_some_iff.mp hi).1
  have cne := I.cne
  have tracked : ∀ {a : Addr} {h' : Heap}, (∃ o, s.heap.get? a = some o ∧ H a = none) → Heap.SameBut a s.heap h' → HOk X.prog X.w H h' := fun {a h'} ha hs b ob e => by
    obtain ⟨_, _, hfree⟩ := ha
    refine (I.hok b ob e).stay (fun c w' hc q => (hs.2 c ?_).trans q) (fun _ q => q) fun _ _ q => q
    rintro rfl
    rcases hc with rfl | hc
    · rw [hfree] at e; cases e
    · rw [hfree] at hc; cases hc
  rcases hx with hk | hk
  · refine wpAny_storeName_local hk hn (fun h' hn' hs => ?_) hcls
    obtain ⟨oL, _, _, hoL, _⟩ := id hn
    refine h _ ⟨I.ok, I.os, I.bare, ⟨fun b o e n hb hx => ?_, fun b o e n hb hx => ?_, I.base.free, fun b o e hx => ?_, I.base.tups, I.base.frzs, I.base.tbls⟩, ⟨_, hn', fun j y v' e1 e2 e3 => ?_⟩, fun y c e => ?_, I.free, I.freeC, fun p hp => ?_, tracked ⟨oL, hoL, I.free⟩ hs, by simpa using I.len⟩ ⟨_, hs, .inl rfl⟩
    · exact (hs.2 b (Nat.ne_of_lt (Nat.lt_of_lt_of_le (Heap.lt_size e) I.ok.above))).trans (I.base.keep b o e n hb hx)
    · obtain ⟨sl, e1⟩ := I.base.slot b o e n hb hx
      exact ⟨sl, (hs.2 b (Nat.ne_of_lt (Nat.lt_of_lt_of_le (Heap.lt_size e) I.ok.above))).trans e1⟩
    · obtain ⟨o', e1⟩ := I.base.there b o e hx
      exact ⟨o', (hs.2 b (Nat.ne_of_lt (Nat.lt_of_lt_of_le (Heap.lt_size e) I.ok.above))).trans e1⟩
    · by_cases hj : j = i
      · subst hj
        rw [hi] at e1; cases e1
        rw [List.getElem?_set_self hiσ] at e2
        cases e2
        exact ⟨u, r, .inl ⟨hk, by simp⟩⟩
      · rw [List.getElem?_set_ne (Ne.symm hj)] at e2
        obtain ⟨u', r', q⟩ := hl j y v' e1 e2 e3
        refine ⟨u', r', ?_⟩
        rcases q with ⟨k, e⟩ | ⟨k, c, e, z⟩
        · refine .inl ⟨k, ?_⟩
          have : y ≠ x := fun e => hj (nodup_ix hN e1 (e ▸ hi))
          simp [this, e]
        · exact .inr ⟨k, c, e, z.sameBut hs (cne y c e)⟩
    · obtain ⟨w', z⟩ := I.cell y c e
      exact ⟨w', z.sameBut hs (cne y c e)⟩
    · obtain ⟨e, n, ne, nf, d⟩ := I.pin p hp
      exact ⟨(hs.2 p.1 ne).trans e, n, ne, nf, d⟩
  · have hfn : X.fn x = true := by
      rcases hf with z | z
      · exact z
      · rw [z] at hk; cases hk
    obtain ⟨c, hc⟩ := I.ok.has x (.inl hk)
    obtain ⟨w', z⟩ := I.cell x c hc
    refine wpAny_storeName_cell I.ok.kind hk hc z (fun h' hc' hs => ?_)
    obtain ⟨oc, hoc, hocd⟩ := id z
    refine h { s with heap := h' } ⟨I.ok, I.os, I.bare, ⟨fun b o e n hb hx => ?_, fun b o e n hb hx => ?_, I.base.free, fun b o e hx => ?_, I.base.tups, I.base.frzs, I.base.tbls⟩, ⟨m, hn.sameBut hs (Ne.symm (cne x c hc)), fun j y v' e1 e2 e3 => ?_⟩, fun y c' e => ?_, I.free, I.freeC, fun p hp => ?_, tracked ⟨oc, hoc, I.freeC x c hc⟩ hs, by simpa using I.len⟩ ⟨c, hs, .inr hc⟩
    · exact (hs.2 b (Nat.ne_of_lt (Nat.lt_of_lt_of_le (Heap.lt_size e) (I.ok.cab x c hfn hc)))).trans (I.base.keep b o e n hb hx)
    · obtain ⟨sl, e1⟩ := I.base.slot b o e n hb hx
      exact ⟨sl, (hs.2 b (Nat.ne_of_lt (Nat.lt_of_lt_of_le (Heap.lt_size e) (I.ok.cab x c hfn hc)))).trans e1⟩
    · obtain ⟨o', e1⟩ := I.base.there b o e hx
      exact ⟨o', (hs.2 b (Nat.ne_of_lt (Nat.lt_of_lt_of_le (Heap.lt_size e) (I.ok.cab x c hfn hc)))).trans e1⟩
    · by_cases hj : j = i
      · subst hj
        rw [hi] at e1; cases e1
        rw [List.getElem?_set_self hiσ] at e2
        cases e2
        exact ⟨u, r, .inr ⟨.inl hk, c, hc, hc'⟩⟩
      · rw [List.getElem?_set_ne (Ne.symm hj)] at e2
        obtain ⟨u', r', q⟩ := hl j y v' e1 e2 e3
        refine ⟨u', r', ?_⟩
        rcases q with q | ⟨k, c', e, z'⟩
        · exact .inl q
        · refine .inr ⟨k, c', e, z'.sameBut hs ?_⟩
          rintro rfl
          exact hj (nodup_ix hN e1 (I.ok.inj _ _ _ e hc ▸ hi))
    · by_cases hcc : c' = c
      · subst hcc; exact ⟨_, hc'⟩
      · obtain ⟨w2, z2⟩ := I.cell y c' e
        exact ⟨w2, z2.sameBut hs hcc⟩
    · obtain ⟨e, n, ne, nf, d⟩ := I.pin p hp
      refine ⟨(hs.2 p.1 ?_).trans e, n, ne, nf, d⟩
      intro q
      rw [q, hoc] at e
      have q' : oc = p.2 := Option.some.inj e
      exact d w' (by rw [← q']; exact hocd)
theorem store_ok {M : Model} {A : Around} {E : Value → Shared → Prop} {i : Nat} {x : Str} {v : V} {u : Value} {Q : Unit → Shared → Prop} (I : Inv X pins σ H s) (hN : X.N.Nodup) (hi : X.N[i]? = some x) (hx : Loc X.env.scope x) (r : RelV v u)
    (h : ∀ s', Inv X pins (σ.set i (some v)) H s' → Q () s') (hf : X.fn x = true ∨ X.env.scope.names.lookup x = some .local := by first | exact .inl rfl | exact .inr rfl | assumption) : wpAny M A (storeName X.env x u) Q E s :=
  store_ok2 I hN hi hx r (fun s' I' _ => h s' I') hf
theorem Inv.call' {s' : Shared} {ch : List Addr} (I : Inv X pins σ H s) (ho : s'.os = s.os) (u : Un (frs X.stack) ch H H' s.heap s'.heap) (hok : HOk X.prog X.w H' s'.heap) (hg : AllBare s'.gens)
    (hch : ∀ b ∈ ch, (b ∈ X.ex ∨ X.s₀.heap.objs.size ≤ b) ∧ b ≠ X.env.locals ∧ (∀ x c, X.env.cells.lookup x = some c → c ≠ b) ∧ ∀ p ∈ X.pn ++ pins, p.1 ≠ b) : Inv X pins σ H' s' := by
  obtain ⟨h', g', d', t', o'⟩ := s'
  have e : o' = s.os := ho
  subst e
  exact I.call (g' := g') (t' := t') (d' := d') u hok hg hch
end
abbrev XK := Value → Option Addr → Hp → Prop
abbrev St := List (Option V)
abbrev VK := V → Hp → Prop
abbrev TE := St → Hp → VK → Prop
abbrev TT := St → Hp → (Bool → Hp → Prop) → Prop
abbrev TA := St → Hp → (List V → Hp → Prop) → Prop
structure Ends where
  nx : St → Hp → Prop
  rt : VK
  bk : St → Hp → Prop := fun _ _ => False
  ct : St → Hp → Prop := fun _ _ => False
abbrev TS := Ends → St → Hp → Prop
def EP (X : Cx) (pins : List (Addr × Obj)) (σ : St) (Q : VK) (u : Value) (s' : Shared) : Prop := ∃ v H', Inv X pins σ H' s' ∧ RelV v u ∧ Q v H'
def TP (X : Cx) (pins : List (Addr × Obj)) (σ : St) (Q : Bool → Hp → Prop) (b : Bool) (s' : Shared) : Prop := ∃ H', Inv X pins σ H' s' ∧ Q b H'
def AP (X : Cx) (pins : List (Addr × Obj)) (σ : St) (Q : List V → Hp → Prop) (us : List Value) (s' : Shared) : Prop := ∃ vs H', Inv X pins σ H' s' ∧ Vals vs us ∧ Q vs H'
def SP (X : Cx) (pins : List (Addr × Obj)) (D : Ends) (f : Flow) (s' : Shared) : Prop :=
  match f with
  | .next => ∃ σ' H', Inv X pins σ' H' s' ∧ D.nx σ' H'
  | .brk => ∃ σ' H', Inv X pins σ' H' s' ∧ D.bk σ' H'
  | .cont => ∃ σ' H', Inv X pins σ' H' s' ∧ D.ct σ' H'
  | .ret u => ∃ v σ' H', Inv X pins σ' H' s' ∧ RelV v u ∧ D.rt v H'
def PE (X : Cx) (e : Expr) (t : TE) : Prop :=
  ∀ (pins : List (Addr × Obj)) (s : Shared) (σ : St) (H : Hp) (Q : VK), Inv X pins σ H s → t σ H Q → wpAny (model X.prog X.w) X.A (eval e X.env) (EP X pins σ Q) X.xe s
def PT (X : Cx) (e : Expr) (t : TT) : Prop :=
  ∀ (pins : List (Addr × Obj)) (s : Shared) (σ : St) (H : Hp) (Q : Bool → Hp → Prop), Inv X pins σ H s → t σ H Q → wpAny (model X.prog X.w) X.A (isTrue e X.env (eval e X.env)) (TP X pins σ Q) X.xe s
def PW (X : Cx) (e : Expr) (t : TT) : Prop :=
  ∀ (whole : Sem Value) (pins : List (Addr × Obj)) (s : Shared) (σ : St) (H : Hp) (Q : Bool → Hp → Prop), Inv X pins σ H s → t σ H Q → wpAny (model X.prog X.w) X.A (isTrue e X.env whole) (TP X pins σ Q) X.xe s
theorem PW.pt {X : Cx} {e : Expr} {t : TT} (h : PW X e t) : PT X e t := h _
def PA (X : Cx) (es : List Expr) (t : TA) : Prop :=
  ∀ (pos : Pos) (pins : List (Addr × Obj)) (s : Shared) (σ : St) (H : Hp) (Q : List V → Hp → Prop), Inv X pins σ H s → t σ H Q → wpAny (model X.prog X.w) X.A (spliced (backTo pos (starEach es X.env))) (AP X pins σ Q) X.xe s
def PS (X : Cx) (st : Stmt) (t : TS) : Prop :=
  ∀ (pins : List (Addr × Obj)) (s : Shared) (σ : St) (H : Hp) (D : Ends), Inv X pins σ H s → t D σ H → wpAny (model X.prog X.w) X.A (exec st X.env) (SP X pins D) X.xe s
def PSs (X : Cx) (st : List Stmt) (t : TS) : Prop :=
  ∀ (pins : List (Addr × Obj)) (s : Shared) (σ : St) (H : Hp) (D : Ends), Inv X pins σ H s → t D σ H → wpAny (model X.prog X.w) X.A (execs st X.env) (SP X pins D) X.xe s
theorem thn {α : Type} {t : Sem α} {Q Q' : α → Shared → Prop} {M : Model} {A : Around} {E : Value → Shared → Prop} {s : Shared} (h : wpAny M A t Q E s) (hQ : ∀ a s, Q a s → Q' a s) : wpAny M A t Q' E s := wpAny_mono h hQ fun _ _ x => x
end L2
namespace L2
open PySem PySem.Spec PyProof.Rows
section
variable {X : Cx}
def tVar (i : Nat) : TE := fun σ H Q => ∃ v, σ[i]? = some (some v) ∧ Q v H
def tC (v : V) : TE := fun _ H Q => Q v H
theorem pe_var {i : Nat} {x : Str} {pos : Pos} (hN : X.N[i]? = some x) (hv : Vis X.env.scope x) (hd : (x == ("__debug__" : Str)) = false := by decide) (hcd : (x == ("__classdict__" : Str)) = false := by decide) : PE X (.Name x pos) (tVar i) := by
  intro pins s σ H Q I h
  obtain ⟨v, e, h⟩ := h
  obtain ⟨m, hn, hl⟩ := I.loc
  obtain ⟨u, r, l⟩ := hl i x v hN e hv
  have fin : EP X pins σ Q u s := ⟨v, H, I, r, h⟩
  rcases l with ⟨hk, hm⟩ | ⟨hk, c, hc, hcell⟩
  · exact wpAny_Name (wpAny_loadName_local I.ok.kind hk hn hm fin) hd
  · rcases hk with hk | hk
    · exact wpAny_Name (wpAny_loadName_cell I.ok.kind hk hc hcell fin) hd
    · exact wpAny_Name (wpAny_loadName_free I.ok.kind hk hc hcell fin hcd) hd
theorem pe_int {i j pos} : PE X (.Constant (.int i) j pos) (tC (.int i)) := fun _ _ _ H _ I h => wpAny_Constant_int ⟨.int i, H, I.tok _, ⟨_, rfl⟩, h⟩
theorem pe_bl {b j pos} : PE X (.Constant (.bool b) j pos) (tC (.bl b)) := fun _ _ _ H _ I h => Constant_bool ⟨.bl b, H, I, rfl, h⟩
theorem pe_str {x j pos} : PE X (.Constant (.str x) j pos) (tC (.str x)) := fun _ _ _ H _ I h => Calls.Constant_str ⟨.str x, H, I.tok _, ⟨_, rfl⟩, h⟩
def Gl (X : Cx) (x : Str) : Prop := X.env.kindOf x = some .globalImplicit
theorem ld_glob {E : Value → Shared → Prop} {pins : List (Addr × Obj)} {s : Shared} {σ : St} {H : Hp} {x : Str} {u : Value} {pos : Pos} {Q : Value → Shared → Prop} (I : Inv X pins σ H s) (hg : Gl X x) (hm : X.mg x = some u) (h : Q u s)
    (hd : (x == ("__debug__" : Str)) = false := by decide) : wpAny (model X.prog X.w) X.A (eval (.Name x pos) X.env) Q E s :=
  Calls.Name_function_global I.ok.kind hg (Calls.loadGlobal_global (by rw [I.ok.glob]; exact I.mod.glob.keeps I.bk) hm h) hd
theorem ld_blt {E : Value → Shared → Prop} {pins : List (Addr × Obj)} {s : Shared} {σ : St} {H : Hp} {x : Str} {u : Value} {pos : Pos} {Q : Value → Shared → Prop} (I : Inv X pins σ H s) (hg : Gl X x) (hm : X.mg x = none) (hv : bootBuiltins x = some u) (h : Q u s)
    (hn : x ≠ "__name__" := by decide) (hd : (x == ("__debug__" : Str)) = false := by decide) : wpAny (model X.prog X.w) X.A (eval (.Name x pos) X.env) Q E s := by
  obtain ⟨mb, h1, h2⟩ := I.mod.blt
  exact Calls.Name_function_global I.ok.kind hg (Calls.loadGlobal_builtin (by rw [I.ok.glob]; exact I.mod.glob.keeps I.bk) hm (by rw [I.ok.blt]; exact h1.keeps I.bk) ((h2 x hn).trans hv) h) hd
theorem pe_bltn {x : Str} {v : V} {u : Value} {pos : Pos} (hg : Gl X x) (hm : X.mg x = none) (hv : bootBuiltins x = some u) (r : RelV v u) (hn : x ≠ "__name__" := by decide) (hd : (x == ("__debug__" : Str)) = false := by decide) : PE X (.Name x pos) (tC v) :=
  fun _ _ _ H _ I h => ld_blt I hg hm hv ⟨v, H, I, r, h⟩ hn hd
variable {a b : Expr} {ta tb : TE} {pos : Pos}
variable {tA tB' : TT} {rest : List Expr}
def tAnd (t u : TT) : TT := fun σ H Q => t σ H fun c H1 => if c = true then u σ H1 Q else Q false H1
def tOr (t u : TT) : TT := fun σ H Q => t σ H fun c H1 => if c = true then Q true H1 else u σ H1 Q
def tNot (t : TT) : TT := fun σ H Q => t σ H fun c H1 => Q (!c) H1
theorem pw_and1 (ha : PT X a tA) : PW X (.BoolOp .And [a] pos) tA := by
  intro wh pins s σ H Q I h
  refine isTrue_and (thn (ha pins s σ H Q I h) fun c s1 e => ?_)
  cases c with
  | true => exact isTrue_and_nil e
  | false => exact e
theorem pw_or1 (ha : PT X a tA) : PW X (.BoolOp .Or [a] pos) tA := by
  intro wh pins s σ H Q I h
  refine isTrue_or (thn (ha pins s σ H Q I h) fun c s1 e => ?_)
  cases c with
  | false => exact isTrue_or_nil e
  | true => exact e
theorem pw_and (ha : PT X a tA) (hb : PW X (.BoolOp .And (b :: rest) pos) tB') : PW X (.BoolOp .And (a :: b :: rest) pos) (tAnd tA tB') := by
  intro wh pins s σ H Q I h
  refine isTrue_and (thn (ha pins s σ H _ I h) fun c s1 ⟨H1, I1, q1⟩ => ?_)
  cases c with
  | true => exact hb wh pins s1 σ H1 Q I1 q1
  | false => exact ⟨H1, I1, q1⟩
theorem pw_or (ha : PT X a tA) (hb : PW X (.BoolOp .Or (b :: rest) pos) tB') : PW X (.BoolOp .Or (a :: b :: rest) pos) (tOr tA tB') := by
  intro wh pins s σ H Q I h
  refine isTrue_or (thn (ha pins s σ H _ I h) fun c s1 ⟨H1, I1, q1⟩ => ?_)
  cases c with
  | true => exact ⟨H1, I1, q1⟩
  | false => exact hb wh pins s1 σ H1 Q I1 q1
theorem pt_not (ha : PT X a tA) : PT X (.UnaryOp .Not a pos) (tNot tA) := by
  intro pins s σ H Q I h
  exact isTrue_not (ha pins s σ H (fun c H1 => Q (!c) H1) I h)
def tIf (t : TT) (ta tb : TE) : TE := fun σ H Q => t σ H fun c H1 => if c = true then ta σ H1 Q else tb σ H1 Q
theorem pe_ifExp {c : Expr} (hc : PT X c tA) (ha : PE X a ta) (hb : PE X b tb) : PE X (.IfExp c a b pos) (tIf tA ta tb) := by
  intro pins s σ H Q I h
  refine wpAny_IfExp (thn (hc pins s σ H _ I h) fun d s1 ⟨H1, I1, q1⟩ => ?_)
  cases d with
  | true => exact ha pins s1 σ H1 Q I1 q1
  | false => exact hb pins s1 σ H1 Q I1 q1
end
end L2
namespace L2
open PySem PySem.Spec PyProof.Rows
def SqL (K : PySem.W.Frag) (H : Hp) (a : Addr) (xs : List V) : Prop :=
  Rd H a (.lst xs) ∨
    ∃ (o : Obj) (its : Array Value) (n : Nat), K.lookup a = some o ∧ o.cls = .type "list" ∧ o.dict = none ∧ o.data = .seq its n ∧ its.size ≤ sizeLine ∧ Vals xs its.toList
def SqT (K : PySem.W.Frag) (H : Hp) (a : Addr) (xs : List V) : Prop :=
  Rd H a (.tup xs) ∨
    ∃ (o : Obj) (its : Array Value) (n : Nat), K.lookup a = some o ∧ o.cls = .type "tuple" ∧ o.data = .seq its n ∧ its.size ≤ sizeLine ∧ Vals xs its.toList
def absV : Value → Option V
  | .none => some .non
  | .bool b => some (.bl b)
  | .int i _ => some (.int i)
  | .str x _ => some (.str x)
  | .bytes b _ => some (.byt b)
  | .float b _ => some (.flt b)
  | .ref a => some (.ref a)
  | .type n => some (.ty n)
  | _ => none
theorem RelV.abs {x : V} {u : Value} (r : RelV x u) : absV u = some x := by
  cases x with
  | non => cases r; rfl
  | bl _ => cases r; rfl
  | int _ => obtain ⟨t, rfl⟩ := r; rfl
  | str _ => obtain ⟨t, rfl⟩ := r; rfl
  | byt _ => obtain ⟨t, rfl⟩ := r; rfl
  | flt _ => obtain ⟨t, rfl⟩ := r; rfl
  | ref _ => cases r; rfl
  | ty _ => cases r; rfl
theorem RelV.inj {x y : V} {u : Value} (r : RelV x u) (q : RelV y u) : x = y := Option.some.inj (r.abs.symm.trans q.abs)
theorem Vals.inj : ∀ {xs ys : List V} {us : List Value}, Vals xs us → Vals ys us → xs = ys
  | _, _, _, .nil, .nil => rfl
  | _, _, _, .cons r t, .cons r' t' => by rw [r.inj r', Vals.inj t t']
section
variable {X : Cx} {pins : List (Addr × Obj)} {σ : St} {H : Hp} {s : Shared} {a : Addr} {xs ys : List V}
theorem SqL.of {K : PySem.W.Frag} (h : H a = some (.lst xs)) : SqL K H a xs := .inl (.inl h)
theorem SqT.of {K : PySem.W.Frag} (h : H a = some (.tup xs)) : SqT K H a xs := .inl (.inl h)
theorem Inv.list (I : Inv X pins σ H s) (h : SqL X.K H a xs) : ∃ its : List Value, Vals xs its ∧ PlainL s.heap a its.toArray ∧ xs.length ≤ sizeLine := by
  rcases h with h | ⟨o, its, n, hk, hc, hd, hs, hz, r⟩
  · obtain ⟨z, its, n, r, e⟩ := h.ok I.hok
    exact ⟨its, r, ⟨_, n, e, rfl, rfl, rfl⟩, z⟩
  · refine ⟨its.toList, r, ⟨o, n, I.kIn a o hk, hc, hd, by simpa using hs⟩, ?_⟩
    have e := r.length
    simp only [Array.length_toList] at e
    omega
theorem Inv.tuple (I : Inv X pins σ H s) (h : SqT X.K H a xs) : ∃ its : List Value, Vals xs its ∧ IsTup s.heap a its.toArray ∧ xs.length ≤ sizeLine := by
  rcases h with h | ⟨o, its, n, hk, hc, hs, hz, r⟩
  · obtain ⟨z, its, r, p⟩ := h.ok I.hok
    exact ⟨its, r, p, z⟩
  · refine ⟨its.toList, r, ⟨o, I.kIn a o hk, hc, n, by simpa using hs⟩, ?_⟩
    have e := r.length
    simp only [Array.length_toList] at e
    omega
theorem Inv.list_inj (I : Inv X pins σ H s) (h : SqL X.K H a xs) (h' : SqL X.K H a ys) : xs = ys := by
  obtain ⟨its, r, ⟨o, n, e, _, _, d⟩, _⟩ := I.list h
  obtain ⟨its', r', ⟨o', n', e', _, _, d'⟩, _⟩ := I.list h'
  rw [e] at e'; cases e'
  rw [d] at d'
  injection d' with d1 _
  have : its = its' := by simpa using congrArg Array.toList d1
  subst this
  exact r.inj r'
theorem Inv.tuple_inj (I : Inv X pins σ H s) (h : SqT X.K H a xs) (h' : SqT X.K H a ys) : xs = ys := by
  obtain ⟨its, r, ⟨o, e, _, n, d⟩, _⟩ := I.tuple h
  obtain ⟨its', r', ⟨o', e', _, n', d'⟩, _⟩ := I.tuple h'
  rw [e] at e'; cases e'
  rw [d] at d'
  injection d' with d1 _
  have : its = its' := by simpa using congrArg Array.toList d1
  subst this
  exact r.inj r'
end
abbrev Cx.wish (X : Cx) (E : Value → Shared → Prop) : Cx := { X with xe := E }
abbrev Cx.nox (X : Cx) : Cx := X.wish fun _ _ => False
theorem Cx.Ok.wish {X : Cx} (ok : X.Ok) (E : Value → Shared → Prop) : (X.wish E).Ok :=
  ⟨ok.mod, ok.kind, ok.glob, ok.blt, ok.above, ok.inj, ok.has, ok.cab, ok.hd, ok.frames, ok.stk, ok.exf, ok.bs, ok.bsz, ok.noex, ok.exfs, ok.funs, ok.frf⟩
theorem Cx.Ok.unwish {X : Cx} {E : Value → Shared → Prop} (ok : (X.wish E).Ok) : X.Ok :=
  ⟨ok.mod, ok.kind, ok.glob, ok.blt, ok.above, ok.inj, ok.has, ok.cab, ok.hd, ok.frames, ok.stk, ok.exf, ok.bs, ok.bsz, ok.noex, ok.exfs, ok.funs, ok.frf⟩
section
variable {X : Cx} {pins : List (Addr × Obj)} {σ : St} {H : Hp} {s : Shared} {E : Value → Shared → Prop}
theorem Inv.wish (I : Inv X pins σ H s) (E : Value → Shared → Prop) : Inv (X.wish E) pins σ H s := ⟨I.ok.wish E, I.os, I.bare, I.base, I.loc, I.cell, I.free, I.freeC, I.pin, I.hok, I.len⟩
theorem Inv.unwish (I : Inv (X.wish E) pins σ H s) : Inv X pins σ H s := ⟨I.ok.unwish, I.os, I.bare, I.base, I.loc, I.cell, I.free, I.freeC, I.pin, I.hok, I.len⟩
theorem SP.unwish {D : Ends} {f : Flow} {s' : Shared} (h : SP (X.wish E) pins D f s') : SP X pins D f s' := by
  cases f with
  | next => obtain ⟨σ', H', I, q⟩ := h; exact ⟨σ', H', I.unwish, q⟩
  | brk => obtain ⟨σ', H', I, q⟩ := h; exact ⟨σ', H', I.unwish, q⟩
  | cont => obtain ⟨σ', H', I, q⟩ := h; exact ⟨σ', H', I.unwish, q⟩
  | ret u => obtain ⟨v, σ', H', I, r, q⟩ := h; exact ⟨v, σ', H', I.unwish, r, q⟩
theorem PE.nox {e : Expr} {t : TE} (h : PE X.nox e t) : PE X e t := fun pins s σ H Q I hw =>
  wpAny_mono (h pins s σ H Q (I.wish _) hw) (fun _ _ ⟨v, H', I', r, q⟩ => ⟨v, H', I'.unwish, r, q⟩) fun _ _ z => False.elim z
theorem PT.nox {e : Expr} {t : TT} (h : PT X.nox e t) : PT X e t := fun pins s σ H Q I hw =>
  wpAny_mono (h pins s σ H Q (I.wish _) hw) (fun _ _ ⟨H', I', q⟩ => ⟨H', I'.unwish, q⟩) fun _ _ z => False.elim z
theorem PSs.nox {st : List Stmt} {t : TS} (h : PSs X.nox st t) : PSs X st t := fun pins s σ H D I hw =>
  wpAny_mono (h pins s σ H D (I.wish _) hw) (fun _ _ q => q.unwish) fun _ _ z => False.elim z
end
section
variable {X : Cx} {st : Stmt} {rest : List Stmt} {t u : TS} {e : Expr} {te : TE} {pos : Pos}
def tNext : TS := fun D σ H => D.nx σ H
def tSeq (t u : TS) : TS := fun D σ H => t { D with nx := u D } σ H
theorem pss_nil : PSs X [] tNext := fun _ _ σ H _ I h => wpAny_execs_nil ⟨σ, H, I, h⟩
theorem pss_cons (h1 : PS X st t) (h2 : PSs X rest u) : PSs X (st :: rest) (tSeq t u) := by
  intro pins s σ H D I h
  refine wpAny_execs_cons (thn (h1 pins s σ H { D with nx := u D } I h) fun f s1 q => ?_)
  cases f with
  | next =>
    obtain ⟨σ', H', I', q⟩ := q
    exact h2 pins s1 σ' H' D I' q
  | ret v => exact q
  | brk => exact q
  | cont => exact q
theorem pss_one (h1 : PS X st t) : PSs X [st] t := by
  intro pins s σ H D I h
  refine wpAny_execs_cons (thn (h1 pins s σ H D I h) fun f s1 q => ?_)
  cases f with
  | next => exact wpAny_execs_nil q
  | ret v => exact q
  | brk => exact q
  | cont => exact q
theorem Inv.quiet {pins : List (Addr × Obj)} {σ : St} {H : Hp} {s : Shared} (I : Inv X pins σ H s) : interactive X.env = false := by simp [interactive, I.ok.kind]
def tDrop (te : TE) : TS := fun D σ H => te σ H fun _ H1 => D.nx σ H1
theorem ps_expr (he : PE X e te) (hs : swapsWith e none pos.line X.env = pure false := by rfl) : PS X (.Expr e pos) (tDrop te) := by
  intro pins s σ H D I h
  exact wpAny_Expr_any (thn (he pins s σ H _ I h) fun v s1 ⟨x, H1, I1, r1, q1⟩ => ⟨σ, H1, I1, q1⟩) I.quiet hs
def tRet (te : TE) : TS := fun D σ H => te σ H D.rt
theorem ps_ret (he : PE X e te) : PS X (.Return (some e) pos) (tRet te) := by
  intro pins s σ H D I h
  exact wpAny_Return_some (thn (he pins s σ H _ I h) fun v s1 ⟨x, H1, I1, r1, q1⟩ => ⟨x, σ, H1, I1, r1, q1⟩)
def tIfS (c : TT) (t u : TS) : TS := fun D σ H => c σ H fun b H1 => if b = true then t D σ H1 else u D σ H1
theorem ps_if {c : Expr} {a b : List Stmt} {tc : TT} (hc : PT X c tc) (ha : PSs X a t) (hb : PSs X b u) : PS X (.If c a b pos) (tIfS tc t u) := by
  intro pins s σ H D I h
  refine wpAny_If (thn (hc pins s σ H _ I h) fun d s1 ⟨H1, I1, q1⟩ => ?_)
  cases d with
  | true => exact ha pins s1 σ H1 D I1 q1
  | false => exact hb pins s1 σ H1 D I1 q1
end
abbrev TG := V → St → Hp → (St → Hp → Prop) → Prop
def PG (X : Cx) (target : Expr) (t : TG) : Prop :=
  ∀ (pins : List (Addr × Obj)) (s : Shared) (σ : St) (H : Hp) (v : V) (u : Value) (Q : St → Hp → Prop), Inv X pins σ H s → RelV v u → t v σ H Q →
    wpAny (model X.prog X.w) X.A (assign target X.env u) (fun _ s' => ∃ σ' H', Inv X pins σ' H' s' ∧ Q σ' H') X.xe s
section
variable {X : Cx} {pos : Pos}
def gName (i : Nat) : TG := fun v σ H Q => Q (σ.set i (some v)) H
theorem pg_name {i : Nat} {x : Str} (hN : X.N.Nodup) (hi : X.N[i]? = some x) (hx : Loc X.env.scope x) (hf : X.fn x = true ∨ X.env.scope.names.lookup x = some .local := by first | exact .inl rfl | exact .inr rfl | assumption) : PG X (.Name x pos) (gName i) := by
  intro pins s σ H v u Q I r h
  exact wpAny_assign_Name (store_ok I hN hi hx r (fun s' I' => ⟨_, H, I', h⟩) hf)
def tAsg (te : TE) (g : TG) : TS := fun D σ H => te σ H fun x H1 => g x σ H1 D.nx
theorem ps_set {i : Nat} {x : Str} {e : Expr} {te : TE} {pos' : Pos} (hN : X.N.Nodup) (hi : X.N[i]? = some x) (hx : Loc X.env.scope x) (he : PE X e te) (hs : swapsWith e (some (.Name x pos')) pos.line X.env = pure false := by rfl) (hf : X.fn x = true ∨ X.env.scope.names.lookup x = some .local := by first | exact .inl rfl | exact .inr rfl | assumption) :
    PS X (.Assign [.Name x pos'] e pos) (tAsg te (gName i)) := by
  intro pins s σ H D I h
  refine wpAny_Assign_Name (thn (he pins s σ H _ I h) fun v s1 ⟨y, H1, I1, r1, q1⟩ => ?_) hs
  exact store_ok I1 hN hi hx r1 (fun s2 I2 => ⟨_, H1, I2, q1⟩) hf
end
section
variable {X : Cx} {pos : Pos}
def tWhile (c : TT) (tb : TS) : TS := fun D σ H => ∃ W : Nat → St → Hp → Prop, (∃ m, W m σ H) ∧ ∀ m σ H, W m σ H →
  c σ H fun b H1 => if b = true then ∃ N : St → Hp → Prop, (∀ σ' H', N σ' H' → ∃ m', m' < m ∧ W m' σ' H') ∧ tb { D with nx := N, ct := N, bk := D.nx } σ H1 else D.nx σ H1
theorem ps_while {c : Expr} {body : List Stmt} {tc : TT} {tb : TS} (hp : PassesOwn (model X.prog X.w) X.A X.env X.xe) (hc : PT X c tc) (hb : PSs X body tb) : PS X (.While c body [] pos) (tWhile tc tb) := by
  intro pins s σ H D I h
  obtain ⟨W, ⟨m0, w0⟩, turn⟩ := h
  refine wpAny_While (codeAny_whileLoop (fun n s' => ∃ σ' H', Inv X pins σ' H' s' ∧ W n σ' H') ?_ m0 ⟨σ, H, I, w0⟩)
  rintro n s1 ⟨σ1, H1, I1, w1⟩
  refine wpAny_passesOwn hp (thn (hc pins s1 σ1 H1 _ I1 (turn n σ1 H1 w1)) fun b s2 ⟨H2, I2, q2⟩ => ?_)
  cases b with
  | true =>
    obtain ⟨N, hN, q2⟩ := q2
    rw [if_pos rfl]
    refine wpAny_passesOwn hp (thn (hb pins s2 σ1 H2 _ I2 q2) fun f s3 q3 => ?_)
    cases f with
    | next =>
      obtain ⟨σ3, H3, I3, n3⟩ := q3
      obtain ⟨m', hm, w3⟩ := hN σ3 H3 n3
      exact ⟨m', hm, σ3, H3, I3, w3⟩
    | cont =>
      obtain ⟨σ3, H3, I3, n3⟩ := q3
      obtain ⟨m', hm, w3⟩ := hN σ3 H3 n3
      exact ⟨m', hm, σ3, H3, I3, w3⟩
    | brk => exact q3
    | ret v => exact q3
  | false =>
    rw [if_neg Bool.false_ne_true]
    exact wpAny_execs_nil ⟨σ1, H2, I2, q2⟩
end
structure It where
  go : Nat → Hp → Prop
  yld : Nat → Hp → V → Hp → Prop
  stop : Nat → Hp → Prop
def FpOk (X : Cx) (pins : List (Addr × Obj)) (H : Hp) (b : Addr) : Prop :=
  H b = none ∧ b ≠ X.env.locals ∧ b ∉ X.fs ∧ (b ∈ X.ex ∨ X.s₀.heap.objs.size ≤ b) ∧ (∀ x c, X.env.cells.lookup x = some c → c ≠ b) ∧ ∀ p ∈ X.pn ++ pins, p.1 ≠ b
theorem Inv.fpOk {X : Cx} {pins : List (Addr × Obj)} {σ : St} {H H' : Hp} {s : Shared} {b : Addr} (I : Inv X pins σ H s) (hb : s.heap.objs.size ≤ b) (hn : H' b = none) : FpOk X pins H' b := by
  refine ⟨hn, Nat.ne_of_gt (Nat.lt_of_lt_of_le I.lt hb), I.nofs hb, .inr (Nat.le_trans I.sz hb), fun x c e z => ?_, fun p hp z => ?_⟩
  · obtain ⟨v, q⟩ := I.cell x c e
    exact absurd (Nat.lt_of_lt_of_le q.lt (by rw [z]; exact hb)) (Nat.lt_irrefl _)
  · exact absurd (Nat.lt_of_lt_of_le (Heap.lt_size (I.pin p hp).1) (by rw [z]; exact hb)) (Nat.lt_irrefl _)
structure Turn (P : Program) (w : World) (K : PySem.W.Frag) (tg : Expr) (J : It) (fp : List Addr) (it : Addr) (tn : Nat → Heap → Prop) : Prop where
  mem : it ∈ fp
  obj : ∀ i h, tn i h → ∀ b ∈ fp, ∃ o, h.get? b = some o ∧ ∀ v, o.data ≠ .cell v
  keep : ∀ i h h', tn i h → (∀ b ∈ fp, ∀ o, h.get? b = some o → h'.get? b = some o) → tn i h'
  item : ∀ (X : Cx), X.prog = P → X.w = w → X.K = K → X.calm = true → ∀ (i : Nat) (pins : List (Addr × Obj)) (s : Shared) (σ : St) (H : Hp) (E : Value → Shared → Prop), Inv X pins σ H s → (∀ b ∈ fp, FpOk X pins H b) → tn i s.heap → J.go i H →
    wpAny (model P w) X.A (pyNext (.ref it)) (fun r s1 => ∃ u, r = some u ∧
      wpAny (model P w) X.A (letOwnedTupleGo tg (.ref it) u) (fun _ s2 => ∃ x H', Inv X pins σ H' s2 ∧ RelV x u ∧ J.yld i H x H' ∧ tn (i + 1) s2.heap ∧ ∀ b ∈ fp, H' b = none) E s1) E s
  done : ∀ (X : Cx), X.prog = P → X.w = w → X.K = K → X.calm = true → ∀ (i : Nat) (pins : List (Addr × Obj)) (s : Shared) (σ : St) (H : Hp) (E : Value → Shared → Prop), Inv X pins σ H s → (∀ b ∈ fp, FpOk X pins H b) → tn i s.heap → J.stop i H →
    wpAny (model P w) X.A (pyNext (.ref it)) (fun r s1 => r = none ∧ Inv X pins σ H s1) E s
  self : ∀ (A : Around) (i : Nat) (s : Shared) (Q : Value → Shared → Prop) (E : Value → Shared → Prop), tn i s.heap → Q (.ref it) s → wpAny (model P w) A (pyIter (.ref it)) Q E s
abbrev TI := St → Hp → (It → Hp → Prop) → Prop
def PIE (X : Cx) (pins : List (Addr × Obj)) (σ : St) (tg : Expr) (R : It → Hp → Prop) (itv : Value) (s2 : Shared) : Prop :=
  ∃ (it : Addr) (fp : List Addr) (tn : Nat → Heap → Prop) (J : It) (H' : Hp), itv = .ref it ∧ Inv X pins σ H' s2 ∧ Turn X.prog X.w X.K tg J fp it tn ∧ tn 0 s2.heap ∧ (∀ b ∈ fp, FpOk X pins H' b) ∧ R J H'
def PI (X : Cx) (tg iter : Expr) (wi : TI) : Prop :=
  ∀ (pins : List (Addr × Obj)) (s : Shared) (σ : St) (H : Hp) (R : It → Hp → Prop), Inv X pins σ H s → wi σ H R →
    wpAny (model X.prog X.w) X.A (eval iter X.env) (fun v s1 => wpAny (model X.prog X.w) X.A (pyIter v) (PIE X pins σ tg R) X.xe s1) X.xe s
theorem go_of {M : Model} {A : Around} {E : Value → Shared → Prop} {s : Shared} {tg : Expr} {it : Addr} {u : Value} {o : Obj} {n : String} {vs : Array Value} {Q : Unit → Shared → Prop} (ho : s.heap.get? it = some o) (hc : o.cls = .type n) (hd : o.data = .fields vs)
    (hn : ["enumerate", "zip", "dict_itemiterator", "dict_reverseitemiterator", "odict_iterator", "itertools.zip_longest", "itertools.pairwise"].contains n = false) (hQ : Q () s) : wpAny M A (letOwnedTupleGo tg (.ref it) u) Q E s := by
  unfold letOwnedTupleGo
  cases tg <;> first
    | exact wpAny_pure hQ
    | (cases u <;> first
        | exact wpAny_pure hQ
        | (refine wpAny_bind (wpAny_load ho ?_)
           rw [hc, hd]
           show wpAny M A (if (["enumerate", "zip", "dict_itemiterator", "dict_reverseitemiterator", "odict_iterator", "itertools.zip_longest", "itertools.pairwise"].contains n && vs[0]? == some (rawInt _)) = true then _ else _) Q E s
           rw [if_neg (by intro h; rw [hn, Bool.false_and] at h; cases h)]
           exact wpAny_pure hQ))
def Itl (K : PySem.W.Frag) (a : Addr) : It :=
  ⟨fun i H => ∃ xs x, SqL K H a xs ∧ xs[i]? = some x, fun i H x H' => H' = H ∧ ∀ xs, SqL K H a xs → xs[i]? = some x, fun i H => ∃ xs, SqL K H a xs ∧ xs.length ≤ i⟩
def Itt (K : PySem.W.Frag) (a : Addr) : It :=
  ⟨fun i H => ∃ xs x, SqT K H a xs ∧ xs[i]? = some x, fun i H x H' => H' = H ∧ ∀ xs, SqT K H a xs → xs[i]? = some x, fun i H => ∃ xs, SqT K H a xs ∧ xs.length ≤ i⟩
def Itr (lo : Int) (n : Nat) : It := ⟨fun i _ => i < n, fun i H x H' => H' = H ∧ x = .int (lo + i), fun i _ => n ≤ i⟩
theorem turn_list {P : Program} {w : World} {K : PySem.W.Frag} {tg : Expr} (a it : Addr) : Turn P w K tg (Itl K a) [it] it (fun i h => h.IsListIter it a i) where
  mem := by simp
  obj := fun i h st b hb => by
    have e : b = it := by simpa using hb
    subst e
    obtain ⟨o, e, c, d⟩ := st
    exact ⟨o, e, fun v z => by rw [d] at z; cases z⟩
  keep := fun i h h' st k => st.at fun o e => k it (by simp) o e
  item := by
    intro X hP hw hK hc i pins s σ H E I hf st hg
    subst hP hw hK
    obtain ⟨xs, x, hq, hx⟩ := hg
    obtain ⟨its, rv, p, hz⟩ := I.list hq
    obtain ⟨u, hu, ru⟩ := rv.get hx
    obtain ⟨f0, f1, f2, f3, f4, f5⟩ := hf it (by simp)
    refine wpAny_pyNext_list_item st p.isList (x := u) (by simpa using hu) fun h' st' sb => ?_
    have I1 : Inv X pins σ H { s with heap := h' } := I.turned (t' := s.toks) (fun b o hb e => (sb.2 b hb).trans e) f0 f1 f3 f4 f5
    obtain ⟨o, e, c, d⟩ := id st'
    exact ⟨u, rfl, go_of (s := { s with heap := h' }) e c d (by decide) ⟨x, H, I1, ru, ⟨rfl, fun ys hy => by rw [I.list_inj hy hq]; exact hx⟩, st', fun b hb => (hf b hb).1⟩⟩
  done := by
    intro X hP hw hK hc i pins s σ H E I hf st hg
    subst hP hw hK
    obtain ⟨xs, hq, hx⟩ := hg
    obtain ⟨its, rv, p, hz⟩ := I.list hq
    obtain ⟨f0, f1, f2, f3, f4, f5⟩ := hf it (by simp)
    have hl := rv.length
    exact wpAny_pyNext_list_end (I.ok.hd hc) st p.isList (by simp; omega) fun h' eb => ⟨rfl, I.turned (t' := s.toks) (fun b o hb e => eb b o hb e) f0 f1 f3 f4 f5⟩
  self := fun _ _ _ _ _ st h => wpAny_pyIter_listiter st h
theorem turn_tuple {P : Program} {w : World} {K : PySem.W.Frag} {tg : Expr} (a it : Addr) : Turn P w K tg (Itt K a) [it] it (fun i h => h.IsTupleIter it a i) where
  mem := by simp
  obj := fun i h st b hb => by
    have e : b = it := by simpa using hb
    subst e
    obtain ⟨o, e, c, d⟩ := st
    exact ⟨o, e, fun v z => by rw [d] at z; cases z⟩
  keep := fun i h h' st k => st.at fun o e => k it (by simp) o e
  item := by
    intro X hP hw hK hc i pins s σ H E I hf st hg
    subst hP hw hK
    obtain ⟨xs, x, hq, hx⟩ := hg
    obtain ⟨its, rv, p, hz⟩ := I.tuple hq
    obtain ⟨u, hu, ru⟩ := rv.get hx
    obtain ⟨f0, f1, f2, f3, f4, f5⟩ := hf it (by simp)
    refine wpAny_pyNext_tuple_item st (show s.heap.IsTuple a its.toArray from p) (x := u) (by simpa using hu) fun h' st' sb => ?_
    have I1 : Inv X pins σ H { s with heap := h' } := I.turned (t' := s.toks) (fun b o hb e => (sb.2 b hb).trans e) f0 f1 f3 f4 f5
    obtain ⟨o, e, c, d⟩ := id st'
    exact ⟨u, rfl, go_of (s := { s with heap := h' }) e c d (by decide) ⟨x, H, I1, ru, ⟨rfl, fun ys hy => by rw [I.tuple_inj hy hq]; exact hx⟩, st', fun b hb => (hf b hb).1⟩⟩
  done := by
    intro X hP hw hK hc i pins s σ H E I hf st hg
    subst hP hw hK
    obtain ⟨xs, hq, hx⟩ := hg
    obtain ⟨its, rv, p, hz⟩ := I.tuple hq
    obtain ⟨f0, f1, f2, f3, f4, f5⟩ := hf it (by simp)
    have hl := rv.length
    exact wpAny_pyNext_tuple_end (I.ok.hd hc) st (show s.heap.IsTuple a its.toArray from p) (by simp; omega) fun h' eb => ⟨rfl, I.turned (t' := s.toks) (fun b o hb e => eb b o hb e) f0 f1 f3 f4 f5⟩
  self := fun _ _ _ _ _ st h => wpAny_pyIter_tupleiter st h
theorem turn_range {P : Program} {w : World} {K : PySem.W.Frag} {tg : Expr} (it : Addr) (lo : Int) (n : Nat) : Turn P w K tg (Itr lo n) [it] it (fun i h => IsRangeIter h it (lo + (i : Nat) * 1) ((n : Int) - (i : Nat)) 1) where
  mem := by simp
  obj := fun i h st b hb => by
    have e : b = it := by simpa using hb
    subst e
    exact ⟨_, st, fun v z => by
      have z' : Data.fields _ = Data.cell v := z
      cases z'⟩
  keep := fun i h h' st k => k it (by simp) _ st
  item := by
    intro X hP hw hK hc i pins s σ H E I hf st hg
    subst hP hw hK
    obtain ⟨f0, f1, f2, f3, f4, f5⟩ := hf it (by simp)
    have W := Walks.range (prog := X.prog) (w := X.w) (I.ok.hd hc) it lo 1 n
    refine W.item i s _ _ hg st fun v h' tk hv st' kk => ?_
    obtain ⟨t, rfl⟩ := hv
    have I1 : Inv X pins σ H { s with heap := h', toks := tk } := I.turned (fun b o hb e => kk b o (by simpa using hb) e) f0 f1 f3 f4 f5
    refine ⟨_, rfl, go_of (s := { s with heap := h', toks := tk }) (n := "range_iterator") st' rfl rfl (by decide) ⟨.int (lo + i), H, I1, ⟨t, ?_⟩, ⟨rfl, rfl⟩, st', fun b hb => (hf b hb).1⟩⟩
    rw [Int.mul_one]
  done := by
    intro X hP hw hK hc i pins s σ H E I hf st hg
    subst hP hw hK
    obtain ⟨f0, f1, f2, f3, f4, f5⟩ := hf it (by simp)
    exact wpAny_pyNext_range_end (I.ok.hd hc) st (by have : n ≤ i := hg; omega) fun h' eb => ⟨rfl, I.turned (t' := s.toks) (fun b o hb e => eb b o hb e) f0 f1 f3 f4 f5⟩
  self := fun _ _ _ _ _ st h => wpAny_pyIter_rangeiter st h
end L2
namespace L2
open PySem PySem.Spec PyProof.Rows
section
variable {X : Cx} {tg : Expr}
def iList (K : PySem.W.Frag) (tl : TE) : TI := fun σ H R => tl σ H fun x H1 => ∃ a, x = .ref a ∧ (∃ xs, SqL K H1 a xs) ∧ R (Itl K a) H1
def iTup (K : PySem.W.Frag) (tl : TE) : TI := fun σ H R => tl σ H fun x H1 => ∃ a, x = .ref a ∧ (∃ xs, SqT K H1 a xs) ∧ R (Itt K a) H1
theorem pi_list {l : Expr} {tl : TE} (hl : PE X l tl) : PI X tg l (iList X.K tl) := by
  intro pins s σ H R I h
  refine thn (hl pins s σ H _ I h) fun v s1 ⟨x, H1, I1, r1, q1⟩ => ?_
  obtain ⟨a, e, ⟨xs, hq⟩, q⟩ := q1
  subst e
  cases r1
  obtain ⟨its, rv, p, hz⟩ := I1.list hq
  refine wpAny_pyIter_list p.isList ?_
  refine ⟨s1.heap.objs.size, [s1.heap.objs.size], _, _, H1, rfl, I1.kept (t' := s1.toks) fun b o e => Heap.get?_push_of_some _ e, turn_list a _, ⟨_, Heap.get?_push_size _ rfl, rfl, rfl⟩, fun b hb => ?_, q⟩
  have e : b = s1.heap.objs.size := by simpa using hb
  subst e
  exact I1.fpOk (Nat.le_refl _) (I1.hok.fresh (Nat.le_refl _))
theorem pi_tup {l : Expr} {tl : TE} (hl : PE X l tl) : PI X tg l (iTup X.K tl) := by
  intro pins s σ H R I h
  refine thn (hl pins s σ H _ I h) fun v s1 ⟨x, H1, I1, r1, q1⟩ => ?_
  obtain ⟨a, e, ⟨xs, hq⟩, q⟩ := q1
  subst e
  cases r1
  obtain ⟨its, rv, p, hz⟩ := I1.tuple hq
  refine wpAny_pyIter_tuple (show s1.heap.IsTuple a its.toArray from p) ?_
  refine ⟨s1.heap.objs.size, [s1.heap.objs.size], _, _, H1, rfl, I1.kept (t' := s1.toks) fun b o e => Heap.get?_push_of_some _ e, turn_tuple a _, ⟨_, Heap.get?_push_size _ rfl, rfl, rfl⟩, fun b hb => ?_, q⟩
  have e : b = s1.heap.objs.size := by simpa using hb
  subst e
  exact I1.fpOk (Nat.le_refl _) (I1.hok.fresh (Nat.le_refl _))
theorem range_it {pins : List (Addr × Obj)} {σ : St} {H : Hp} {s : Shared} {R : It → Hp → Prop} {E : Value → Shared → Prop} {lo hi : Int} {t u v : Tok} {tk : Nat} (I : Inv X pins σ H s) (h1 : -(2 ^ 62) ≤ lo) (h2 : lo < 2 ^ 62) (h3 : -(2 ^ 62) ≤ hi) (h4 : hi < 2 ^ 62)
    (q : R (Itr lo (hi - lo).toNat) H) : wpAny (model X.prog X.w) X.A (pyIter (.ref s.heap.objs.size)) (PIE X pins σ tg R) E { s with heap := s.heap.push { cls := .type "range", data := .fields #[.int lo t, .int hi u, .int 1 v] }, toks := tk } := by
  refine wpAny_pyIter_range (IsRange.new ..) (small_one h1 h2 h3 h4) ?_
  have I1 : Inv X pins σ H { s with heap := s.heap.push { cls := .type "range", data := .fields #[.int lo t, .int hi u, .int 1 v] }, toks := tk } := I.kept fun b o e => Heap.get?_push_of_some _ e
  refine ⟨(s.heap.push { cls := .type "range", data := .fields #[.int lo t, .int hi u, .int 1 v] }).objs.size, [(s.heap.push { cls := .type "range", data := .fields #[.int lo t, .int hi u, .int 1 v] }).objs.size], _, _, H, rfl,
    I1.kept (t' := tk) fun b o e => Heap.get?_push_of_some _ e, turn_range _ lo (hi - lo).toNat, ?_, fun b hb => ?_, q⟩
  · have e1 : lo + ((0 : Nat) : Int) * 1 = lo := by simp
    have e2 : (((hi - lo).toNat : Nat) : Int) - ((0 : Nat) : Int) = Builtin.Range.rangeSize lo hi 1 := by rw [rangeSize_one]; split <;> omega
    show IsRangeIter _ _ (lo + ((0 : Nat) : Int) * 1) ((((hi - lo).toNat : Nat) : Int) - ((0 : Nat) : Int)) 1
    rw [e1, e2]
    exact Heap.get?_push_size _ rfl
  · have e : b = (s.heap.push { cls := .type "range", data := .fields #[.int lo t, .int hi u, .int 1 v] }).objs.size := by simpa using hb
    subst e
    exact I1.fpOk (Nat.le_refl _) (I1.hok.fresh (Nat.le_refl _))
def iRng1 (ta : TA) : TI := fun σ H R => ta σ H fun vs H1 => ∃ j : Int, vs = [.int j] ∧ -(2 ^ 62) ≤ j ∧ j < 2 ^ 62 ∧ R (Itr 0 j.toNat) H1
theorem pi_range1 {a : Expr} {ta : TA} {p pos : Pos} (hg : Gl X "range") (hm : X.mg "range" = none) (ha : PA X [a] ta) (hs : starEach [a] X.env = [(false, eval a X.env)] := by rfl) : PI X tg (.Call (.Name "range" p) [a] [] pos) (iRng1 ta) := by
  intro pins s σ H R I h
  refine Call_ (ld_blt I hg hm boot_range (PyProof.Rows.callWith_type1 (thn (ha pos pins s σ H _ I h) fun us s1 ⟨vs, H1, I1, r1, q1⟩ => ?_) hs rfl))
  obtain ⟨j, e, q1, q2, q⟩ := q1
  subst e
  cases r1 with
  | cons r rr =>
    cases rr
    obtain ⟨t, rfl⟩ := r
    exact call_range_1 (range_it I1 (by omega) (by omega) q1 q2 (by simpa using q))
def tFor (wi : TI) (g : TG) (tb : TS) : TS := fun D σ H => wi σ H fun J H1 => ∃ W : Nat → Nat → St → Hp → Prop, (∃ m, W 0 m σ H1) ∧ ∀ i m σ H, W i m σ H →
  (J.stop i H ∧ D.nx σ H) ∨ (J.go i H ∧ ∃ N : St → Hp → Prop, (∀ σ' H', N σ' H' → ∃ m', m' < m ∧ W (i + 1) m' σ' H') ∧ ∀ x H', J.yld i H x H' → g x σ H' fun σ2 H2 => tb { D with nx := N, ct := N, bk := D.nx } σ2 H2)
def pinsAt (fp : List Addr) (h : Heap) : List (Addr × Obj) := fp.filterMap fun b => (h.get? b).map fun o => (b, o)
theorem mem_pinsAt {fp : List Addr} {h : Heap} {b : Addr} {o : Obj} (hb : b ∈ fp) (e : h.get? b = some o) : (b, o) ∈ pinsAt fp h := List.mem_filterMap.mpr ⟨b, hb, by rw [e]; rfl⟩
theorem of_pinsAt {fp : List Addr} {h : Heap} {p : Addr × Obj} (hp : p ∈ pinsAt fp h) : p.1 ∈ fp ∧ h.get? p.1 = some p.2 := by
  obtain ⟨b, hb, e⟩ := List.mem_filterMap.mp hp
  cases q : h.get? b with
  | none => rw [q] at e; cases e
  | some o =>
    rw [q] at e
    have e' : (b, o) = p := Option.some.inj e
    subst e'
    exact ⟨hb, q⟩
theorem Inv.pinned {pins : List (Addr × Obj)} {σ : St} {H : Hp} {s : Shared} {fp : List Addr} (I : Inv X pins σ H s) (hf : ∀ b ∈ fp, FpOk X pins H b) (ho : ∀ b ∈ fp, ∃ o, s.heap.get? b = some o ∧ ∀ v, o.data ≠ .cell v) : Inv X (pins ++ pinsAt fp s.heap) σ H s :=
  I.pins_of fun p hp => (List.mem_append.mp hp).elim (fun z => I.pin p (List.mem_append_right _ z)) fun z => by
    obtain ⟨hb, e⟩ := of_pinsAt z
    obtain ⟨f0, f1, f2, _⟩ := hf p.1 hb
    obtain ⟨o, e', d⟩ := ho p.1 hb
    rw [e] at e'; cases e'
    exact ⟨e, f0, f1, f2, d⟩
theorem Inv.unpinned {pins pl : List (Addr × Obj)} {σ : St} {H : Hp} {s : Shared} (I : Inv X (pins ++ pl) σ H s) : Inv X pins σ H s := I.pins_of fun p hp => I.pin p (List.mem_append_right _ (List.mem_append_left _ hp))
theorem ps_for {iter : Expr} {body : List Stmt} {wi : TI} {g : TG} {tb : TS} {pos : Pos} (hp : PassesOwn (model X.prog X.w) X.A X.env X.xe) (hc : X.calm = true) (hi : PI X tg iter wi) (hg : PG X tg g) (hb : PSs X body tb)
    (hs : ∀ x, foldedSetIterable iter X.env x = pure x := by intro _; rfl) : PS X (.For tg iter body [] pos) (tFor wi g tb) := by
  intro pins s σ H D I h
  refine wpAny_For (thn (hi pins s σ H _ I h) fun v s1 h1 => thn h1 fun itv s2 h2 => ?_) hs
  obtain ⟨it, fp, tn, J, H2, e, I2, T, st2, f2, W, ⟨m0, w0⟩, turn⟩ := h2
  subst e
  have stat : ∀ {H' : Hp}, (∀ b ∈ fp, H' b = none) → ∀ b ∈ fp, FpOk X pins H' b := fun hn b hb => ⟨hn b hb, (f2 b hb).2⟩
  refine codeAny_forLoop_any (fun n s' => ∃ i σ' H', Inv X pins σ' H' s' ∧ tn i s'.heap ∧ (∀ b ∈ fp, H' b = none) ∧ W i n σ' H') ?_ m0 ⟨0, σ, H2, I2, st2, fun b hb => (f2 b hb).1, w0⟩
  rintro n s3 ⟨i, σ3, H3, I3, st3, fr3, w3⟩
  rcases turn i n σ3 H3 w3 with ⟨stop, qn⟩ | ⟨go, N, hN, step⟩
  · refine wpAny_passesOwn hp (thn (T.done X rfl rfl rfl hc i pins s3 σ3 H3 X.xe I3 (stat fr3) st3 stop) fun r s4 ⟨hr, I4⟩ => ?_)
    subst hr
    exact wpAny_execs_nil ⟨σ3, H3, I4, qn⟩
  · refine wpAny_passesOwn hp (thn (T.item X rfl rfl rfl hc i pins s3 σ3 H3 X.xe I3 (stat fr3) st3 go) fun r s4 ⟨u, hr, h4⟩ => ?_)
    subst hr
    refine wpAny_passesOwn hp (thn h4 fun _ s5 ⟨x, H5, I5, r5, y5, st5, fr5⟩ => ?_)
    have I5' := I5.pinned (stat fr5) (T.obj _ _ st5)
    refine wpAny_passesOwn hp (thn (hg _ s5 σ3 H5 x u _ I5' r5 (step x H5 y5)) fun _ s6 ⟨σ6, H6, I6, q6⟩ => ?_)
    refine wpAny_passesOwn hp (thn (hb _ s6 σ6 H6 _ I6 q6) fun f s7 q7 => ?_)
    have again : ∀ {σ7 : St} {H7 : Hp}, Inv X (pins ++ pinsAt fp s5.heap) σ7 H7 s7 → N σ7 H7 → ∃ m, m < n ∧ ∃ i σ' H', Inv X pins σ' H' s7 ∧ tn i s7.heap ∧ (∀ b ∈ fp, H' b = none) ∧ W i m σ' H' := fun {σ7 H7} I7 n7 => by
      obtain ⟨m', hm, w7⟩ := hN σ7 H7 n7
      refine ⟨m', hm, i + 1, σ7, H7, I7.unpinned, T.keep _ _ _ st5 fun b hb o e => (I7.pin (b, o) (List.mem_append_right _ (List.mem_append_right _ (mem_pinsAt hb e)))).1, fun b hb => ?_, w7⟩
      obtain ⟨o, e, d⟩ := T.obj _ _ st5 b hb
      exact (I7.pin (b, o) (List.mem_append_right _ (List.mem_append_right _ (mem_pinsAt hb e)))).2.1
    cases f with
    | next => obtain ⟨σ7, H7, I7, n7⟩ := q7; exact again I7 n7
    | cont => obtain ⟨σ7, H7, I7, n7⟩ := q7; exact again I7 n7
    | brk => obtain ⟨σ7, H7, I7, q7⟩ := q7; exact ⟨σ7, H7, I7.unpinned, q7⟩
    | ret v => obtain ⟨x7, σ7, H7, I7, r7, q7⟩ := q7; exact ⟨x7, σ7, H7, I7.unpinned, r7, q7⟩
end
theorem for_list {K : PySem.W.Frag} {a : Addr} {xs : List V} {g : TG} {tb : TS} {D : Ends} {σ : St} {H : Hp} (Pv : Nat → St → Hp → Prop) (h0 : Pv 0 σ H) (hl : ∀ i σ H, i ≤ xs.length → Pv i σ H → SqL K H a xs)
    (hs : ∀ i x σ H, xs[i]? = some x → Pv i σ H → g x σ H fun σ2 H2 => tb { D with nx := Pv (i + 1), ct := Pv (i + 1), bk := D.nx } σ2 H2) (hd : ∀ σ H, Pv xs.length σ H → D.nx σ H) :
    ∃ W : Nat → Nat → St → Hp → Prop, (∃ m, W 0 m σ H) ∧ ∀ i m σ H, W i m σ H →
      ((Itl K a).stop i H ∧ D.nx σ H) ∨ ((Itl K a).go i H ∧ ∃ N : St → Hp → Prop, (∀ σ' H', N σ' H' → ∃ m', m' < m ∧ W (i + 1) m' σ' H') ∧ ∀ x H', (Itl K a).yld i H x H' → g x σ H' fun σ2 H2 => tb { D with nx := N, ct := N, bk := D.nx } σ2 H2) := by
  refine ⟨fun i m σ H => m = xs.length - i ∧ i ≤ xs.length ∧ Pv i σ H, ⟨xs.length, by simp, Nat.zero_le _, h0⟩, ?_⟩
  rintro i m σ H ⟨rfl, hi, p⟩
  have q := hl i σ H hi p
  by_cases hlt : i < xs.length
  · refine .inr ⟨⟨xs, xs[i], q, by simp [hlt]⟩, Pv (i + 1), fun σ' H' p' => ⟨xs.length - (i + 1), by omega, rfl, hlt, p'⟩, fun x H' y => ?_⟩
    obtain ⟨e, y⟩ := y
    subst e
    exact hs i x σ _ (y xs q) p
  · have e : i = xs.length := by omega
    subst e
    exact .inl ⟨⟨xs, q, Nat.le_refl _⟩, hd σ H p⟩
theorem for_tup {K : PySem.W.Frag} {a : Addr} {xs : List V} {g : TG} {tb : TS} {D : Ends} {σ : St} {H : Hp} (Pv : Nat → St → Hp → Prop) (h0 : Pv 0 σ H) (hl : ∀ i σ H, i ≤ xs.length → Pv i σ H → SqT K H a xs)
    (hs : ∀ i x σ H, xs[i]? = some x → Pv i σ H → g x σ H fun σ2 H2 => tb { D with nx := Pv (i + 1), ct := Pv (i + 1), bk := D.nx } σ2 H2) (hd : ∀ σ H, Pv xs.length σ H → D.nx σ H) :
    ∃ W : Nat → Nat → St → Hp → Prop, (∃ m, W 0 m σ H) ∧ ∀ i m σ H, W i m σ H →
      ((Itt K a).stop i H ∧ D.nx σ H) ∨ ((Itt K a).go i H ∧ ∃ N : St → Hp → Prop, (∀ σ' H', N σ' H' → ∃ m', m' < m ∧ W (i + 1) m' σ' H') ∧ ∀ x H', (Itt K a).yld i H x H' → g x σ H' fun σ2 H2 => tb { D with nx := N, ct := N, bk := D.nx } σ2 H2) := by
  refine ⟨fun i m σ H => m = xs.length - i ∧ i ≤ xs.length ∧ Pv i σ H, ⟨xs.length, by simp, Nat.zero_le _, h0⟩, ?_⟩
  rintro i m σ H ⟨rfl, hi, p⟩
  have q := hl i σ H hi p
  by_cases hlt : i < xs.length
  · refine .inr ⟨⟨xs, xs[i], q, by simp [hlt]⟩, Pv (i + 1), fun σ' H' p' => ⟨xs.length - (i + 1), by omega, rfl, hlt, p'⟩, fun x H' y => ?_⟩
    obtain ⟨e, y⟩ := y
    subst e
    exact hs i x σ _ (y xs q) p
  · have e : i = xs.length := by omega
    subst e
    exact .inl ⟨⟨xs, q, Nat.le_refl _⟩, hd σ H p⟩
theorem for_range {lo : Int} {n : Nat} {g : TG} {tb : TS} {D : Ends} {σ : St} {H : Hp} (Pv : Nat → St → Hp → Prop) (h0 : Pv 0 σ H)
    (hs : ∀ i σ H, i < n → Pv i σ H → g (.int (lo + i)) σ H fun σ2 H2 => tb { D with nx := Pv (i + 1), ct := Pv (i + 1), bk := D.nx } σ2 H2) (hd : ∀ σ H, Pv n σ H → D.nx σ H) :
    ∃ W : Nat → Nat → St → Hp → Prop, (∃ m, W 0 m σ H) ∧ ∀ i m σ H, W i m σ H →
      ((Itr lo n).stop i H ∧ D.nx σ H) ∨ ((Itr lo n).go i H ∧ ∃ N : St → Hp → Prop, (∀ σ' H', N σ' H' → ∃ m', m' < m ∧ W (i + 1) m' σ' H') ∧ ∀ x H', (Itr lo n).yld i H x H' → g x σ H' fun σ2 H2 => tb { D with nx := N, ct := N, bk := D.nx } σ2 H2) := by
  refine ⟨fun i m σ H => m = n - i ∧ i ≤ n ∧ Pv i σ H, ⟨n, by simp, Nat.zero_le _, h0⟩, ?_⟩
  rintro i m σ H ⟨rfl, hi, p⟩
  by_cases hlt : i < n
  · refine .inr ⟨hlt, Pv (i + 1), fun σ' H' p' => ⟨n - (i + 1), by omega, rfl, hlt, p'⟩, fun x H' y => ?_⟩
    obtain ⟨e, y⟩ := y
    subst e y
    exact hs i σ _ hlt p
  · have e : i = n := by omega
    subst e
    exact .inl ⟨Nat.le_refl _, hd σ H p⟩
theorem while_by {c : TT} {tb : TS} {D : Ends} {σ : St} {H : Hp} (Pv : St → Hp → Prop) (μ : St → Hp → Nat) (h0 : Pv σ H)
    (hs : ∀ σ H, Pv σ H → c σ H fun b H1 => if b = true then tb { D with nx := fun σ' H' => Pv σ' H' ∧ μ σ' H' < μ σ H, ct := fun σ' H' => Pv σ' H' ∧ μ σ' H' < μ σ H, bk := D.nx } σ H1 else D.nx σ H1)
    (mono : ∀ σ H Q Q', (∀ b H1, Q b H1 → Q' b H1) → c σ H Q → c σ H Q') : tWhile c tb D σ H := by
  refine ⟨fun m σ H => m = μ σ H ∧ Pv σ H, ⟨_, rfl, h0⟩, ?_⟩
  rintro m σ H ⟨rfl, p⟩
  refine mono σ H _ _ (fun b H1 q => ?_) (hs σ H p)
  cases b with
  | true => exact ⟨_, fun σ' H' ⟨p', l⟩ => ⟨_, l, rfl, p'⟩, q⟩
  | false => exact q
end L2
namespace L2
open PySem PySem.Spec PyProof.Rows
abbrev R2 := V → V → Hp → VK → Prop
def OpR (X : Cx) (f : Value → Value → Sem Value) (r : R2) : Prop :=
  ∀ (pins : List (Addr × Obj)) (s : Shared) (σ : St) (H : Hp) (x y : V) (v u : Value) (Q : VK), Inv X pins σ H s → RelV x v → RelV y u → r x y H Q →
    wpAny (model X.prog X.w) X.A (f v u) (EP X pins σ Q) X.xe s
def UnR (X : Cx) (f : Value → Sem Value) (r : V → Hp → VK → Prop) : Prop :=
  ∀ (pins : List (Addr × Obj)) (s : Shared) (σ : St) (H : Hp) (x : V) (v : Value) (Q : VK), Inv X pins σ H s → RelV x v → r x H Q →
    wpAny (model X.prog X.w) X.A (f v) (EP X pins σ Q) X.xe s
def CallR (X : Cx) (f : Value) (r : List V → Hp → VK → Prop) : Prop :=
  ∀ (pins : List (Addr × Obj)) (s : Shared) (σ : St) (H : Hp) (xs : List V) (us : List Value) (Q : VK), Inv X pins σ H s → Vals xs us → r xs H Q →
    wpAny (model X.prog X.w) X.A (call f us) (EP X pins σ Q) X.xe s
def TruR (X : Cx) (r : V → Hp → (Bool → Hp → Prop) → Prop) : Prop :=
  ∀ (pins : List (Addr × Obj)) (s : Shared) (σ : St) (H : Hp) (x : V) (v : Value) (Q : Bool → Hp → Prop), Inv X pins σ H s → RelV x v → r x H Q →
    wpAny (model X.prog X.w) X.A (truthy v) (TP X pins σ Q) X.xe s
def tOp (r : R2) (ta tb : TE) : TE := fun σ H Q => ta σ H fun x H1 => tb σ H1 fun y H2 => r x y H2 Q
def tUn (r : V → Hp → VK → Prop) (ta : TE) : TE := fun σ H Q => ta σ H fun x H1 => r x H1 Q
def rI (C : Int → Int → Prop) (g : Int → Int → V) : R2 := fun x y H Q => ∃ i j, x = .int i ∧ y = .int j ∧ C i j ∧ Q (g i j) H
def rI0 (g : Int → Int → V) : R2 := fun x y H Q => ∃ i j, x = .int i ∧ y = .int j ∧ Q (g i j) H
def rU (g : Int → V) : V → Hp → VK → Prop := fun x H Q => ∃ i, x = .int i ∧ Q (g i) H
section
variable {X : Cx} {a b c : Expr} {ta tb tc : TE} {pos : Pos}
theorem binT (ha : PE X a ta) (hb : PE X b tb) {pins : List (Addr × Obj)} {s : Shared} {σ : St} {H : Hp} {R : V → V → Hp → Prop} (I : Inv X pins σ H s)
    (h : ta σ H fun x H1 => tb σ H1 fun y H2 => R x y H2) {Q : Value → Shared → Prop} {f : Value → Value → Sem Value}
    (hf : ∀ v u s2 x y H2, Inv X pins σ H2 s2 → RelV x v → RelV y u → R x y H2 → wpAny (model X.prog X.w) X.A (f v u) Q X.xe s2) :
    wpAny (model X.prog X.w) X.A (eval a X.env) (fun v s₁ => wpAny (model X.prog X.w) X.A (eval b X.env) (fun u s₂ => wpAny (model X.prog X.w) X.A (f v u) Q X.xe s₂) X.xe s₁) X.xe s := by
  refine thn (ha pins s σ H _ I h) fun v s1 ⟨x, H1, I1, r1, q1⟩ => ?_
  refine thn (hb pins s1 σ H1 _ I1 q1) fun u s2 ⟨y, H2, I2, r2, q2⟩ => ?_
  exact hf v u s2 x y H2 I2 r1 r2 q2
theorem pe_op {op : Operator} {r : R2} (ho : OpR X (binaryOp op) r) (ha : PE X a ta) (hb : PE X b tb) : PE X (.BinOp a op b pos) (tOp r ta tb) := by
  intro pins s σ H Q I h
  exact wpAny_BinOp (binT ha hb I h fun v u s2 x y H2 I2 rx ry q => ho pins s2 σ H2 x y v u Q I2 rx ry q)
theorem pe_un {op : UnaryOp} {r : V → Hp → VK → Prop} (ho : UnR X (unaryOp op) r) (ha : PE X a ta) : PE X (.UnaryOp op a pos) (tUn r ta) := by
  intro pins s σ H Q I h
  exact UnaryOp_ (thn (ha pins s σ H _ I h) fun v s1 ⟨x, H1, I1, r1, q1⟩ => ho pins s1 σ H1 x v Q I1 r1 q1)
theorem opI {f : Value → Value → Sem Value} {C : Int → Int → Prop} {g : Int → Int → Int}
    (rule : ∀ (i j : Int) (t u : Tok) (s : Shared) (Q : Value → Shared → Prop) (E : Value → Shared → Prop), C i j → Q (.int (g i j) s.toks) { s with toks := s.toks + 1 } → wpAny (model X.prog X.w) X.A (f (.int i t) (.int j u)) Q E s) :
    OpR X f (rI C fun i j => .int (g i j)) := by
  intro pins s σ H x y v u Q I rx ry h
  obtain ⟨i, j, rfl, rfl, hc, q⟩ := h
  obtain ⟨t, rfl⟩ := rx
  obtain ⟨t', rfl⟩ := ry
  exact rule i j t t' s _ _ hc ⟨.int (g i j), H, I.tok _, ⟨_, rfl⟩, q⟩
theorem opI0 {f : Value → Value → Sem Value} {g : Int → Int → Int}
    (rule : ∀ (i j : Int) (t u : Tok) (s : Shared) (Q : Value → Shared → Prop) (E : Value → Shared → Prop), Q (.int (g i j) s.toks) { s with toks := s.toks + 1 } → wpAny (model X.prog X.w) X.A (f (.int i t) (.int j u)) Q E s) :
    OpR X f (rI0 fun i j => .int (g i j)) := by
  intro pins s σ H x y v u Q I rx ry h
  obtain ⟨i, j, rfl, rfl, q⟩ := h
  obtain ⟨t, rfl⟩ := rx
  obtain ⟨t', rfl⟩ := ry
  exact rule i j t t' s _ _ ⟨.int (g i j), H, I.tok _, ⟨_, rfl⟩, q⟩
theorem opB0 {f : Value → Value → Sem Value} {g : Int → Int → Bool}
    (rule : ∀ (i j : Int) (t u : Tok) (s : Shared) (Q : Value → Shared → Prop) (E : Value → Shared → Prop), Q (.bool (g i j)) s → wpAny (model X.prog X.w) X.A (f (.int i t) (.int j u)) Q E s) :
    OpR X f (rI0 fun i j => .bl (g i j)) := by
  intro pins s σ H x y v u Q I rx ry h
  obtain ⟨i, j, rfl, rfl, q⟩ := h
  obtain ⟨t, rfl⟩ := rx
  obtain ⟨t', rfl⟩ := ry
  exact rule i j t t' s _ _ ⟨.bl (g i j), H, I, rfl, q⟩
def CPow (i j : Int) : Prop := 0 ≤ j ∧ j ≤ 1000000 ∧ i.natAbs < 2 ^ 64
def CMul (i j : Int) : Prop := (-(2 ^ 64) < i ∧ i < 2 ^ 64) ∨ (-(2 ^ 64) < j ∧ j < 2 ^ 64)
theorem CMul.ok {i j : Int} (h : CMul i j) : IntMulOk i j := by
  rcases h with ⟨h1, h2⟩ | ⟨h1, h2⟩
  · exact .of_left (intBits_le_64 h1 h2)
  · exact .of_right (intBits_le_64 h1 h2)
theorem op_add : OpR X (binaryOp .Add) (rI0 fun i j => .int (i + j)) := opI0 fun _ _ _ _ _ _ _ q => add_int q
theorem op_mul : OpR X (binaryOp .Mult) (rI CMul fun i j => .int (i * j)) := opI fun _ _ _ _ _ _ _ hc q => mul_int q hc.ok
theorem op_mod : OpR X (binaryOp .Mod) (rI (fun _ j => 0 < j) fun i j => .int (i % j)) := opI fun i j _ _ _ _ _ hc q => by
  have h1 : (0 : Int) < j := hc
  exact mod_int' (by omega) (by rw [Int.fmod_eq_emod_of_nonneg i (by omega)]; exact q)
theorem op_pow : OpR X (binaryOp .Pow) (rI CPow fun i j => .int (i ^ j.toNat)) := opI fun _ _ _ _ _ _ _ hc q => pow_int_small hc.1 hc.2.1 hc.2.2 q
theorem unI {f : Value → Sem Value} {g : Int → Int}
    (rule : ∀ (i : Int) (t : Tok) (s : Shared) (Q : Value → Shared → Prop) (E : Value → Shared → Prop), Q (.int (g i) s.toks) { s with toks := s.toks + 1 } → wpAny (model X.prog X.w) X.A (f (.int i t)) Q E s) :
    UnR X f (rU fun i => .int (g i)) := by
  intro pins s σ H x v Q I rx h
  obtain ⟨i, rfl, q⟩ := h
  obtain ⟨t, rfl⟩ := rx
  exact rule i t s _ _ ⟨.int (g i), H, I.tok _, ⟨_, rfl⟩, q⟩
theorem un_neg : UnR X (unaryOp .USub) (rU fun i => .int (-i)) := unI fun _ _ _ _ _ q => neg_int q
end
def scal : V → V → Bool
  | .non, .non => true | .non, .int _ => true | .int _, .non => true | .non, .bl _ => true | .bl _, .non => true | .non, .str _ => true | .str _, .non => true
  | .int _, .int _ => true | .bl _, .bl _ => true | .str _, .str _ => true | .byt _, .byt _ => true
  | .int _, .str _ => true | .str _, .int _ => true | .bl _, .str _ => true | .str _, .bl _ => true
  | _, _ => false
def rEq : R2 := fun x y H Q => scal x y = true ∧ Q (.bl (decide (x = y))) H
def rNe : R2 := fun x y H Q => scal x y = true ∧ Q (.bl (!decide (x = y))) H
theorem dec_int {i j : Int} : decide (V.int i = V.int j) = (i == j) := by
  rw [Bool.eq_iff_iff]
  simp
theorem dec_bl {i j : Bool} : decide (V.bl i = V.bl j) = (i == j) := by
  rw [Bool.eq_iff_iff]
  simp
theorem dec_str {i j : Str} : decide (V.str i = V.str j) = (i == j) := by
  rw [Bool.eq_iff_iff]
  simp
theorem dec_byt {i j : Array UInt8} : decide (V.byt i = V.byt j) = (i.toList == j.toList) := by
  rw [Bool.eq_iff_iff]
  cases i
  cases j
  simp
section
variable {X : Cx} {a b c : Expr} {ta tb tc : TE} {pos : Pos}
theorem fin_bl {pins : List (Addr × Obj)} {σ : St} {H : Hp} {s : Shared} {Q : VK} {k k' : Bool} (I : Inv X pins σ H s) (q : Q (.bl k) H) (e : k = k') : EP X pins σ Q (.bool k') s := by
  subst e
  exact ⟨.bl k, H, I, rfl, q⟩
theorem op_eq : OpR X (compareOp .Eq) rEq := by
  intro pins s σ H x y v u Q I rx ry h
  obtain ⟨hs, q⟩ := h
  cases x with
  | non =>
    cases rx
    cases y with
    | non => cases ry; exact PySem.EqNone.eq_none_none (fin_bl I q (by simp))
    | bl j => cases ry; exact PySem.EqNone.eq_none_bool (fin_bl I q (by simp))
    | int j => obtain ⟨t', rfl⟩ := ry; exact PySem.EqNone.eq_none_int (fin_bl I q (by simp))
    | str j => obtain ⟨t', rfl⟩ := ry; exact PySem.EqNone.eq_none_str (fin_bl I q (by simp))
    | _ => exact absurd (show false = true from hs) Bool.false_ne_true
  | bl i =>
    cases rx
    cases y with
    | non => cases ry; exact PySem.EqNone.eq_bool_none (fin_bl I q (by simp))
    | bl j => cases ry; exact eq_bool (fin_bl I q dec_bl)
    | str j => obtain ⟨t', rfl⟩ := ry; exact PySem.EqMixed.eq_bool_str (fin_bl I q (by simp))
    | _ => exact absurd (show false = true from hs) Bool.false_ne_true
  | int i =>
    obtain ⟨t, rfl⟩ := rx
    cases y with
    | non => cases ry; exact PySem.EqNone.eq_int_none (fin_bl I q (by simp))
    | int j => obtain ⟨t', rfl⟩ := ry; exact eq_int (fin_bl I q dec_int)
    | str j => obtain ⟨t', rfl⟩ := ry; exact PySem.EqMixed.eq_int_str (fin_bl I q (by simp))
    | _ => exact absurd (show false = true from hs) Bool.false_ne_true
  | str i =>
    obtain ⟨t, rfl⟩ := rx
    cases y with
    | non => cases ry; exact PySem.EqNone.eq_str_none (fin_bl I q (by simp))
    | bl j => cases ry; exact PySem.EqMixed.eq_str_bool (fin_bl I q (by simp))
    | int j => obtain ⟨t', rfl⟩ := ry; exact PySem.EqMixed.eq_str_int (fin_bl I q (by simp))
    | str j => obtain ⟨t', rfl⟩ := ry; exact eq_str (fin_bl I q dec_str)
    | _ => exact absurd (show false = true from hs) Bool.false_ne_true
  | byt i =>
    obtain ⟨t, rfl⟩ := rx
    cases y with
    | byt j => obtain ⟨t', rfl⟩ := ry; exact PySem.W.eq_bytes (fin_bl I q dec_byt)
    | _ => exact absurd (show false = true from hs) Bool.false_ne_true
  | _ => cases y <;> exact absurd (show false = true from hs) Bool.false_ne_true
theorem op_ne : OpR X (compareOp .NotEq) rNe := by
  intro pins s σ H x y v u Q I rx ry h
  obtain ⟨hs, q⟩ := h
  cases x with
  | non =>
    cases rx
    cases y with
    | non => cases ry; exact PySem.EqNone.ne_none_none (fin_bl I q (by simp))
    | bl j => cases ry; exact PySem.EqNone.ne_none_bool (fin_bl I q (by simp))
    | int j => obtain ⟨t', rfl⟩ := ry; exact PySem.EqNone.ne_none_int (fin_bl I q (by simp))
    | str j => obtain ⟨t', rfl⟩ := ry; exact PySem.EqNone.ne_none_str (fin_bl I q (by simp))
    | _ => exact absurd (show false = true from hs) Bool.false_ne_true
  | bl i =>
    cases rx
    cases y with
    | non => cases ry; exact PySem.EqNone.ne_bool_none (fin_bl I q (by simp))
    | bl j => cases ry; exact ne_bool (fin_bl I q (congrArg not dec_bl))
    | str j => obtain ⟨t', rfl⟩ := ry; exact PySem.EqMixed.ne_bool_str (fin_bl I q (by simp))
    | _ => exact absurd (show false = true from hs) Bool.false_ne_true
  | int i =>
    obtain ⟨t, rfl⟩ := rx
    cases y with
    | non => cases ry; exact PySem.EqNone.ne_int_none (fin_bl I q (by simp))
    | int j => obtain ⟨t', rfl⟩ := ry; exact ne_int (fin_bl I q (congrArg not dec_int))
    | str j => obtain ⟨t', rfl⟩ := ry; exact PySem.EqMixed.ne_int_str (fin_bl I q (by simp))
    | _ => exact absurd (show false = true from hs) Bool.false_ne_true
  | str i =>
    obtain ⟨t, rfl⟩ := rx
    cases y with
    | non => cases ry; exact PySem.EqNone.ne_str_none (fin_bl I q (by simp))
    | bl j => cases ry; exact PySem.EqMixed.ne_str_bool (fin_bl I q (by simp))
    | int j => obtain ⟨t', rfl⟩ := ry; exact PySem.EqMixed.ne_str_int (fin_bl I q (by simp))
    | str j => obtain ⟨t', rfl⟩ := ry; exact ne_str (fin_bl I q (congrArg not dec_str))
    | _ => exact absurd (show false = true from hs) Bool.false_ne_true
  | byt i =>
    obtain ⟨t, rfl⟩ := rx
    cases y with
    | byt j => obtain ⟨t', rfl⟩ := ry; exact PySem.W.ne_bytes (fin_bl I q (congrArg not dec_byt))
    | _ => exact absurd (show false = true from hs) Bool.false_ne_true
  | _ => cases y <;> exact absurd (show false = true from hs) Bool.false_ne_true
theorem op_lt : OpR X (compareOp .Lt) (rI0 fun i j => .bl (decide (i < j))) := opB0 fun _ _ _ _ _ _ _ q => lt_int q
theorem op_gt : OpR X (compareOp .Gt) (rI0 fun i j => .bl (decide (j < i))) := opB0 fun _ _ _ _ _ _ _ q => gt_int q
theorem op_ge : OpR X (compareOp .GtE) (rI0 fun i j => .bl (decide (j ≤ i))) := opB0 fun _ _ _ _ _ _ _ q => ge_int q
theorem OpR.or {f : Value → Value → Sem Value} {r r' : R2} (h : OpR X f r) (h' : OpR X f r') : OpR X f (fun x y H Q => r x y H Q ∨ r' x y H Q) := by
  intro pins s σ H x y v u Q I rx ry q
  rcases q with q | q
  · exact h pins s σ H x y v u Q I rx ry q
  · exact h' pins s σ H x y v u Q I rx ry q
theorem nomark (b : Expr) {op : CmpOp} (h : op ≠ .In := by decide) (h2 : op ≠ .NotIn := by decide) : behindInMarks op b = false := by
  have e1 : (op == CmpOp.In) = false := by cases op <;> first | rfl | exact absurd rfl h
  have e2 : (op == CmpOp.NotIn) = false := by cases op <;> first | rfl | exact absurd rfl h2
  cases b <;> simp [behindInMarks, e1, e2]
theorem pe_cmpR {op : CmpOp} {r : R2} (ho : OpR X (compareOp op) r) (ha : PE X a ta) (hb : PE X b tb) (hm : behindInMarks op b = false) : PE X (.Compare a [op] [b] pos) (tOp r ta tb) := by
  intro pins s σ H Q I h
  exact wpAny_Compare1 (binT ha hb I h fun v u s2 x y H2 I2 rx ry q => ho pins s2 σ H2 x y v u Q I2 rx ry q) hm
def tTest (t : TE) : TT := fun σ H Q => t σ H fun x H' => ∃ k, x = .bl k ∧ Q k H'
theorem pt_cmpR {op : CmpOp} {r : R2} (ho : OpR X (compareOp op) r) (ha : PE X a ta) (hb : PE X b tb) (hm : behindInMarks op b = false) : PT X (.Compare a [op] [b] pos) (tTest (tOp r ta tb)) := by
  intro pins s σ H Q I h
  refine wpAny_isTrue_Compare1 (thn (ha pins s σ H _ I h) fun v s1 ⟨x, H1, I1, r1, q1⟩ => thn (hb pins s1 σ H1 _ I1 q1) fun u s2 ⟨y, H2, I2, r2, q2⟩ =>
    thn (ho pins s2 σ H2 x y v u _ I2 r1 r2 q2) fun c s3 ⟨z, H3, I3, r3, k, e, q3⟩ => ?_) hm
  subst e
  cases r3
  exact wpAny_truthy_bool ⟨H3, I3, q3⟩
def TruV (K : PySem.W.Frag) (x : V) (H : Hp) (k : Bool) : Prop :=
  match x with
  | .non => k = false
  | .bl b => k = b
  | .int i => k = (i != 0)
  | .str y => y.length ≤ sizeLine ∧ k = ((y.length : Int) != 0)
  | .byt y => y.size ≤ sizeLine ∧ k = ((y.size : Int) != 0)
  | .ref p => (∃ xs, SqL K H p xs ∧ k = !xs.isEmpty) ∨ (∃ xs, SqT K H p xs ∧ k = !xs.isEmpty) ∨ ∃ kvs, H p = some (.dK kvs) ∧ k = !kvs.isEmpty
  | _ => False
theorem isEmpty_kv {κ : Type} {kvs : List (κ × V)} {vs : List (κ × Value)} (r : KV kvs vs) : (!vs.isEmpty) = !kvs.isEmpty := by
  cases r <;> rfl
theorem isEmpty_of {xs : List V} {its : List Value} (r : Vals xs its) : (!its.toArray.isEmpty) = !xs.isEmpty := by
  cases r <;> simp
theorem line63 : (sizeLine : Nat) < 2 ^ 63 := by rw [sizeLine_eq]; decide
theorem tru_ok : TruR X (fun x H Q => ∃ k, TruV X.K x H k ∧ Q k H) := by
  intro pins s σ H x v Q I rx h
  obtain ⟨k, e, q⟩ := h
  have hl := line63
  have hs : sizeLine = 16777216 := sizeLine_eq
  cases x with
  | non =>
    cases rx
    have e' : k = false := e
    subst e'
    exact truthy_none ⟨H, I, q⟩
  | bl b =>
    cases rx
    have e' : k = b := e
    subst e'
    exact wpAny_truthy_bool ⟨H, I, q⟩
  | int i =>
    obtain ⟨t, rfl⟩ := rx
    have e' : k = (i != 0) := e
    subst e'
    exact PySem.P.truthy_int ⟨H, I, q⟩
  | str y =>
    obtain ⟨t, rfl⟩ := rx
    obtain ⟨hy, e'⟩ : y.length ≤ sizeLine ∧ k = ((y.length : Int) != 0) := e
    subst e'
    exact PySem.P.truthy_str (by omega) ⟨H, I.tok _, q⟩
  | byt y =>
    obtain ⟨t, rfl⟩ := rx
    obtain ⟨hy, e'⟩ : y.size ≤ sizeLine ∧ k = ((y.size : Int) != 0) := e
    subst e'
    exact PySem.W.truthy_bytes (by omega) ⟨H, I.tok _, q⟩
  | ref p =>
    cases rx
    have e' : (∃ xs, SqL X.K H p xs ∧ k = !xs.isEmpty) ∨ (∃ xs, SqT X.K H p xs ∧ k = !xs.isEmpty) ∨ ∃ kvs, H p = some (.dK kvs) ∧ k = !kvs.isEmpty := e
    rcases e' with ⟨xs, hx, e'⟩ | ⟨xs, hx, e'⟩ | ⟨kvs, hx, e'⟩
    · subst e'
      obtain ⟨its, r, pl, hz⟩ := I.list hx
      have hlen := r.length
      exact wpAny_truthy_list pl.isList (by simp only [List.size_toArray]; omega) ⟨H, I.tok _, by rw [isEmpty_of r]; exact q⟩
    · subst e'
      obtain ⟨its, r, pl, hz⟩ := I.tuple hx
      have hlen := r.length
      exact truthy_tuple pl (by simp only [List.size_toArray]; omega) ⟨H, I.tok _, by rw [isEmpty_of r]; exact q⟩
    · subst e'
      obtain ⟨hz, hS, vs, r, m⟩ : kvs.length ≤ sizeLine ∧ (p == sysModules) = false ∧ ∃ vs, KV kvs vs ∧ s.heap.DictOf (mixKind X.prog X.w) p vs := I.hok p _ hx
      have hlen : kvs.length = vs.length := Paired.length r
      exact wpAny_truthy_dict hS m (by omega) ⟨H, I.tok _, by rw [isEmpty_kv r]; exact q⟩
  | _ => exact (show False from e).elim
theorem pt_truth (ha : PE X a ta) (he : ∀ whole, isTrue a X.env whole = (do let v ← whole; standAt a.pos; holding [v] (truthy v))) :
    PT X a (fun σ H Q => ta σ H fun x H' => ∃ k, TruV X.K x H' k ∧ Q k H') := by
  intro pins s σ H Q I h
  exact isTrue_plain (thn (ha pins s σ H _ I h) fun v s1 ⟨x, H1, I1, r1, q1⟩ => tru_ok pins s1 σ H1 x v Q I1 r1 q1) (he _)
theorem op_add_str : OpR X (binaryOp .Add) (fun x y H Q => ∃ i j, x = .str i ∧ y = .str j ∧ i.length + j.length ≤ sizeLine ∧ Q (.str (i ++ j)) H) := by
  intro pins s σ H x y v u Q I rx ry h
  obtain ⟨i, j, rfl, rfl, hz, q⟩ := h
  obtain ⟨t, rfl⟩ := rx
  obtain ⟨t', rfl⟩ := ry
  exact add_str (fun t' tk => ⟨.str (i ++ j), H, I.tok _, ⟨_, rfl⟩, q⟩) hz
theorem vals1 {x : V} {us : List Value} (r : Vals [x] us) : ∃ u, us = [u] ∧ RelV x u := by
  cases r with
  | cons r1 r2 => cases r2; exact ⟨_, rfl, r1⟩
theorem vals2 {x y : V} {us : List Value} (r : Vals [x, y] us) : ∃ u w', us = [u, w'] ∧ RelV x u ∧ RelV y w' := by
  cases r with
  | cons r1 r2 =>
    cases r2 with
    | cons r3 r4 => cases r4; exact ⟨_, _, rfl, r1, r3⟩
theorem call_abs : CallR X (.builtin "abs") (fun xs H Q => ∃ i, xs = [.int i] ∧ Q (.int (if i < 0 then -i else i)) H) := by
  intro pins s σ H xs us Q I r h
  obtain ⟨i, rfl, q⟩ := h
  obtain ⟨u, rfl, t, rfl⟩ := vals1 r
  exact call_abs_int fun u tk => ⟨.int (if i < 0 then -i else i), H, I.tok _, ⟨_, rfl⟩, q⟩
def LenV (K : PySem.W.Frag) (x : V) (H : Hp) (n : Nat) : Prop :=
  match x with
  | .str y => y.length ≤ sizeLine ∧ n = y.length
  | .byt y => y.size ≤ sizeLine ∧ n = y.size
  | .ref p => (∃ xs, SqL K H p xs ∧ n = xs.length) ∨ ∃ xs, SqT K H p xs ∧ n = xs.length
  | _ => False
theorem call_len : CallR X (.builtin "len") (fun xs H Q => ∃ x n, xs = [x] ∧ LenV X.K x H n ∧ Q (.int n) H) := by
  intro pins s σ H xs us Q I r h
  obtain ⟨x, n, rfl, e, q⟩ := h
  obtain ⟨u, rfl, rx⟩ := vals1 r
  have hl := line63
  have hs : sizeLine = 16777216 := sizeLine_eq
  cases x with
  | str y =>
    obtain ⟨t, rfl⟩ := rx
    obtain ⟨hy, e'⟩ : y.length ≤ sizeLine ∧ n = y.length := e
    subst e'
    exact len_str (by omega) ⟨.int _, H, I.tok _, ⟨_, rfl⟩, q⟩
  | byt y =>
    obtain ⟨t, rfl⟩ := rx
    obtain ⟨hy, e'⟩ : y.size ≤ sizeLine ∧ n = y.size := e
    subst e'
    exact PySem.W.len_bytes (by omega) ⟨.int _, H, I.tok _, ⟨_, rfl⟩, q⟩
  | ref p =>
    cases rx
    have e' : (∃ xs, SqL X.K H p xs ∧ n = xs.length) ∨ ∃ xs, SqT X.K H p xs ∧ n = xs.length := e
    rcases e' with ⟨xs, hx, e'⟩ | ⟨xs, hx, e'⟩
    · subst e'
      obtain ⟨its, r', pl, hz⟩ := I.list hx
      have hlen := r'.length
      exact Calls.call_len_list pl.isList (by simp only [List.size_toArray]; omega) ⟨.int xs.length, H, I.tok _, ⟨_, by simp only [List.size_toArray]; rw [hlen]⟩, q⟩
    · subst e'
      obtain ⟨its, r', pl, hz⟩ := I.tuple hx
      have hlen := r'.length
      exact len_tuple pl (by simp only [List.size_toArray]; omega) ⟨.int xs.length, H, I.tok _, ⟨_, by simp only [List.size_toArray]; rw [hlen]⟩, q⟩
  | _ => exact (show False from e).elim
end
end L2
namespace L2
open PySem PySem.Spec PyProof.Rows
structure ObjM (h : Heap) (x dx C : Addr) (mA : Str → Option Value) : Prop where
  obj : h.get? x = some (PySem.W.instObj C dx)
  ns : h.Ns1 dx mA
  ne : dx ≠ x
theorem lookIn_ns {h : Heap} {dx : Addr} {mA : Str → Option Value} (n : h.Ns1 dx mA) : ∃ od, h.get? dx = some od ∧ ∀ name, PySem.W.lookIn name od = some (mA name) := by
  obtain ⟨o, es, ep, ho, hd, hk, _, hm⟩ := n
  refine ⟨o, ho, fun name => ?_⟩
  have e := hm name
  unfold nsFind findBy at e
  rw [← Array.find?_toList] at e
  unfold PySem.W.lookIn
  rw [hd]
  dsimp only
  split
  · rename_i y q
    rw [q] at e
    exact congrArg some e
  · rename_i q
    rw [q] at e
    have a : es.toList.any (·.refKey) = false := by
      rw [List.any_eq_false]
      intro y hy
      obtain ⟨z, t, hkey⟩ := hk y (Array.mem_toList_iff.mp hy)
      simp [DictEntry.refKey, hkey]
    have a' : ¬ es.toList.any (·.refKey) = true := by rw [a]; exact Bool.false_ne_true
    rw [if_neg a']
    exact congrArg some e
theorem ObjM.look {h : Heap} {x dx C : Addr} {mA : Str → Option Value} (I : ObjM h x dx C mA) : ∃ od, PySem.W.InstAt h x (PySem.W.instObj C dx) C (some od) ∧ ∀ name, PySem.W.lookIn name od = some (mA name) :=
  let ⟨od, ho, hl⟩ := lookIn_ns I.ns
  ⟨od, ⟨I.obj, rfl, rfl, ho⟩, hl⟩
section
variable {prog : Program} {w : World} {A : Around} {E : Value → Shared → Prop} {s : Shared} {K : PySem.W.Frag} {x dx C f : Addr} {mA : Str → Option Value} {name : Str} {v : Value}
end
theorem RelO.some_of {v : V} {o : Option Value} (r : RelO (some v) o) : ∃ u, o = some u ∧ RelV v u := by
  cases o with
  | none => exact (show False from r).elim
  | some u => exact ⟨u, rfl, r⟩
section
variable {P : Program} {w : World} {H H' : Hp} {h h' : Heap} {a C dx : Addr} {fs fs' : List (Str × V)}
theorem ins_get (hok : HOk P w H h) (e : H a = some (.ins C dx fs)) : ∃ mA, ObjM h a dx C mA ∧ (∀ f, RelO (fs.lookup f) (mA f)) ∧ PySem.Within mA (fs.map (·.1)) ∧ fs.length ≤ 1000 ∧ H dx = some (.own a) := by
  obtain ⟨d, z, ne, ob, mA, n, r, q⟩ := (show ObjOk P w H h a (.ins C dx fs) from hok a _ e)
  exact ⟨mA, ⟨ob, n, ne⟩, r, q, z, d⟩
end
structure Cls (K : PySem.W.Frag) (C : Addr) : Prop where
  pg : PySem.W.plainGet K C Str.empty = true
  hd : PySem.W.hasDictIn K C = true
  po : PySem.W.plainOver K C = true
  sa : PySem.W.findIn K (.ref C) "__setattr__" = some (some (.builtin "object.__setattr__"))
theorem Cls.get {K : PySem.W.Frag} {C : Addr} (c : Cls K C) (f : Str) : PySem.W.plainGet K C f = true := c.pg
section
variable {X : Cx} {pins : List (Addr × Obj)} {σ : St} {H : Hp} {s : Shared} {a C dx : Addr} {fs : List (Str × V)} {f : Str} {v : V} {A : Around} {E : Value → Shared → Prop}
end
section
variable {X : Cx} {o e value : Expr} {f : Str} {pos pos' tpos : Pos} {ta tv : TE}
end
section
variable {X : Cx} {pins : List (Addr × Obj)} {σ : St} {H : Hp} {s : Shared} {A : Around} {E : Value → Shared → Prop} {Q : Value → Shared → Prop} {c : Value} {b : Bool}
inductive TyOf (K : PySem.W.Frag) (H : Hp) : V → Value → Prop where
  | non : TyOf K H .non (.type "NoneType")
  | bl (x : Bool) : TyOf K H (.bl x) (.type "bool")
  | int (i : Int) : TyOf K H (.int i) (.type "int")
  | str (x : Str) : TyOf K H (.str x) (.type "str")
  | flt (x : UInt64) : TyOf K H (.flt x) (.type "float")
  | lst {a : Addr} {xs : List V} (e : H a = some (.lst xs)) : TyOf K H (.ref a) (.type "list")
  | frz {a : Addr} {o : Obj} {xs : List V} (e : H a = some (.frz o (.lst xs))) : TyOf K H (.ref a) (.type "list")
  | tup {a : Addr} {xs : List V} (e : H a = some (.tup xs)) : TyOf K H (.ref a) (.type "tuple")
  | dK {a : Addr} {kvs : List (Key × V)} (e : H a = some (.dK kvs)) : TyOf K H (.ref a) (.type "dict")
  | dT {a : Addr} {kvs : List (List Key × V)} (e : H a = some (.dT kvs)) : TyOf K H (.ref a) (.type "dict")
  | ins {a C dx : Addr} {fs : List (Str × V)} (e : H a = some (.ins C dx fs)) (cl : Cls K C) (ha : PySem.W.findIn K (.ref C) "__class__" = some (some (.builtin "object.__class__")))
      (hn : PySem.W.specialIn K (.builtin "object.__class__") "__get__" = some (some (.builtin "getset_descriptor.__get__"))) (htk : PySem.W.takesIn K (.builtin "object.__class__") = some true)
      (hm : PySem.W.mroIn K C (.type "object") = some true) : TyOf K H (.ref a) (.ref C)
theorem isinst_ok {x : V} {u t : Value} (I : Inv X pins σ H s) (rx : RelV x u) (ty : TyOf X.K H x t) (e : PySem.W.kitOne X.K t c = some b) (h : ∀ tk, Q (.bool b) { s with toks := tk }) :
    wpAny (model X.prog X.w) A (call (.builtin "isinstance") [u, c]) Q E s := by
  cases ty with
  | non => cases (show u = Value.none from rx); exact PySem.W.kia_one PySem.W.kitx_none I.kIn True.intro e (fun z => nomatch z) h
  | bl y => cases (show u = Value.bool y from rx); exact PySem.W.kia_one PySem.W.kitx_bool I.kIn True.intro e (fun z => nomatch z) h
  | int i => obtain ⟨t, q⟩ := (show ∃ t, u = Value.int i t from rx); cases q; exact PySem.W.kia_one PySem.W.kitx_int I.kIn True.intro e (fun z => nomatch z) h
  | str y => obtain ⟨t, q⟩ := (show ∃ t, u = Value.str y t from rx); cases q; exact PySem.W.kia_one PySem.W.kitx_str I.kIn True.intro e (fun z => nomatch z) h
  | flt y => obtain ⟨t, q⟩ := (show ∃ t, u = Value.float y t from rx); cases q; exact PySem.W.kia_one PySem.W.kitx_float I.kIn True.intro e (fun z => nomatch z) h
  | @lst a xs ea =>
    cases (show u = Value.ref a from rx)
    obtain ⟨_, _, n, _, h1⟩ := (show ObjOk X.prog X.w H s.heap a (.lst xs) from I.hok a _ ea)
    exact PySem.W.kia_one PySem.W.kitx_list I.kIn ⟨_, h1, rfl⟩ e (fun z => nomatch z) h
  | @frz a ob xs ea =>
    cases (show u = Value.ref a from rx)
    obtain ⟨_, _, _, n, _, h1⟩ := (show ObjOk X.prog X.w H s.heap a (.frz ob (.lst xs)) from I.hok a _ ea)
    exact PySem.W.kia_one PySem.W.kitx_list I.kIn ⟨_, h1, rfl⟩ e (fun z => nomatch z) h
  | @tup a xs ea =>
    cases (show u = Value.ref a from rx)
    obtain ⟨_, _, _, p⟩ := (show ObjOk X.prog X.w H s.heap a (.tup xs) from I.hok a _ ea)
    obtain ⟨o, h1, h2, _⟩ := p
    exact PySem.W.kia_one PySem.W.kitx_tuple I.kIn ⟨o, h1, h2⟩ e (fun z => nomatch z) h
  | @dK a kvs ea =>
    cases (show u = Value.ref a from rx)
    obtain ⟨_, _, vs, _, p⟩ := (show ObjOk X.prog X.w H s.heap a (.dK kvs) from I.hok a _ ea)
    obtain ⟨o, es, ep, h1, h2, _⟩ := p
    exact PySem.W.kia_one PySem.W.kitx_dict I.kIn ⟨o, h1, h2.1⟩ e (fun z => nomatch z) h
  | @dT a kvs ea =>
    cases (show u = Value.ref a from rx)
    obtain ⟨_, _, xs, _, o, es, ep, h1, h2, _⟩ := (show ObjOk X.prog X.w H s.heap a (.dT kvs) from I.hok a _ ea)
    exact PySem.W.kia_one PySem.W.kitx_dict I.kIn ⟨o, h1, h2.1⟩ e (fun z => nomatch z) h
  | @ins a C dx fs ea cl ha hn htk hm =>
    cases (show u = Value.ref a from rx)
    obtain ⟨mA, O, _⟩ := ins_get I.hok ea
    obtain ⟨od, J, _⟩ := O.look
    exact PySem.W.kia_one (PySem.W.kitx_own (cl.get _) cl.hd ha hn htk hm) I.kIn J e (fun z => nomatch z) h
end
end L2
namespace L2
open PySem PySem.Spec PyProof.Rows
structure Room (k : Nat) (A : Around) : Prop where
  hd : A.handled = none
  dp : A.depth + 3 * k + 5 < recursionLimit
  un : A.units + 16 * k + 200 < cLine
  gd : A.guards = some []
theorem Room.mono {j k : Nat} {A : Around} (r : Room k A) (h : j ≤ k) : Room j A := ⟨r.hd, by have := r.dp; omega, by have := r.un; omega, r.gd⟩
theorem Room.deeper {k : Nat} {A : Around} (r : Room (k + 1) A) (env : Env) : Room k (A.deeper env) :=
  ⟨r.hd, by have := r.dp; show A.depth + 1 + 3 * k + 5 < _; omega, by have := r.un; show A.units + 3 + 16 * k + 200 < _; omega, r.gd⟩
theorem Room.in1 {k : Nat} {A : Around} (r : Room (k + 1) A) : Room k A.in1 :=
  ⟨r.hd, by have := r.dp; show A.depth + 3 * k + 5 < _; omega, by have := r.un; show A.units + 1 + 16 * k + 200 < _; omega, r.gd⟩
theorem Room.depth {k : Nat} {A : Around} (r : Room k A) : A.depth < recursionLimit := by have := r.dp; omega
theorem Room.units {k : Nat} {A : Around} (r : Room k A) : A.units + 64 < cLine := by have := r.un; omega
def tNil : TA := fun _ H Q => Q [] H
def tCons (ta : TE) (tr : TA) : TA := fun σ H Q => ta σ H fun x H1 => tr σ H1 fun xs H2 => Q (x :: xs) H2
section
variable {X : Cx} {e : Expr} {es : List Expr} {te : TE} {t : TA} {pos : Pos}
theorem pa_nil : PA X [] tNil := fun _ _ _ _ H Q I h => Calls.spliced_nil ⟨[], H, I, .nil, h⟩
theorem pa_cons (ha : PE X e te) (hr : PA X es t) (hs : starEach (e :: es) X.env = (false, eval e X.env) :: starEach es X.env := by rfl) : PA X (e :: es) (tCons te t) := by
  intro pos pins s σ H Q I h
  rw [hs]
  show wpAny _ _ (spliced ((false, eval e X.env) :: backTo pos (starEach es X.env))) _ _ s
  refine Calls.spliced_cons (thn (ha pins s σ H _ I h) fun u s1 ⟨x, H1, I1, r1, q1⟩ => ?_)
  exact thn (hr pos pins s1 σ H1 _ I1 q1) fun us s2 ⟨xs, H2, I2, r2, q2⟩ => ⟨x :: xs, H2, I2, .cons r1 r2, q2⟩
def tTup (t : TA) : TE := fun σ H Q => t σ H fun xs H1 => xs.length ≤ sizeLine ∧ ∀ p, H1 p = none → Q (.ref p) (upd H1 p (.tup xs))
def tLst (t : TA) : TE := fun σ H Q => t σ H fun xs H1 => xs.length ≤ sizeLine ∧ ∀ p, H1 p = none → Q (.ref p) (upd H1 p (.lst xs))
theorem pe_tup {x1} (h : PA X es t) : PE X (.Tuple es x1 pos) (tTup t) := by
  intro pins s σ H Q I hq
  refine wpAny_Tuple_spliced (thn (h pos pins s σ H _ I hq) fun us s1 ⟨xs, H1, I1, r, z, q⟩ => ⟨by rw [← r.length]; exact z, ?_⟩)
  have hf : H1 s1.heap.objs.size = none := I1.hok.fresh (Nat.le_refl _)
  refine ⟨.ref s1.heap.objs.size, upd H1 s1.heap.objs.size (.tup xs), I1.laid (t' := s1.toks) (fun b u e => Heap.get?_push_of_some _ e) (Nat.le_refl _) ?_, rfl, q _ hf⟩
  exact ⟨z, us, r, ⟨_, Heap.get?_push_size _ rfl, rfl, _, rfl⟩⟩
theorem pe_lst (h : PA X es t) : PE X (.List es pos) (tLst t) := by
  intro pins s σ H Q I hq
  refine wpAny_List_spliced (thn (h pos pins s σ H _ I hq) fun us s1 ⟨xs, H1, I1, r, z, q⟩ => ⟨by rw [← r.length]; exact z, ?_⟩)
  have hf : H1 s1.heap.objs.size = none := I1.hok.fresh (Nat.le_refl _)
  refine ⟨.ref s1.heap.objs.size, upd H1 s1.heap.objs.size (.lst xs), I1.laid (t' := s1.toks) (fun b u e => Heap.get?_push_of_some _ e) (Nat.le_refl _) ?_, rfl, q _ hf⟩
  exact ⟨z, us, 0, r, Heap.get?_push_size _ rfl⟩
end
abbrev Sp := List V → Hp → VK → XK → Prop
abbrev CXT := List Env → Hp → Shared → XK → Value → Shared → Prop
structure Env0 (P : Program) (w : World) (K : PySem.W.Frag) (mg : Str → Option Value) (base : Heap) (A : Around) (outer : List Env) (s : Shared) (H : Hp) : Prop where
  frames : A.frames = some outer
  mod : Mod K mg base
  bs : ∀ b o, base.get? b = some o → s.heap.get? b = some o ∧ H b = none
  bsz : base.objs.size ≤ s.heap.objs.size
  funs : s.heap.FunFrames base outer
  frf : ∀ b ∈ frs outer, H b = none
  hok : HOk P w H s.heap
  bare : AllBare s.gens
def CE (outer : List Env) (P : Program) (w : World) (H : Hp) (s : Shared) (Q : VK) (u : Value) (s' : Shared) : Prop :=
  ∃ v H', s'.os = s.os ∧ AllBare s'.gens ∧ Un (frs outer) [] H H' s.heap s'.heap ∧ HOk P w H' s'.heap ∧ RelV v u ∧ Q v H'
def CR (CX : CXT) (outer : List Env) (P : Program) (w : World) (H : Hp) (s : Shared) (Q : VK) (E : XK) (r : Result) (s' : Shared) : Prop :=
  match r with
  | .ok (.ret u) => CE outer P w H s Q u s'
  | .ok _ => False
  | .error e => CX outer H s E e s'
structure FnOk (P : Program) (w : World) (K : PySem.W.Frag) (mg : Str → Option Value) (base : Heap) (CX : CXT) (k : Nat) (f : Addr) (fd : FuncData) (ps : List Str) (sp : Sp) : Prop where
  len : ∀ vs H Q E, sp vs H Q E → vs.length = ps.length
  run : ∀ (A : Around) (outer : List Env) (s : Shared) (H : Hp) (args : Args) (us : List Value) (vs : List V) (Q : VK) (E : XK), Room k A → Env0 P w K mg base A outer s H → BindsTo s fd args (ps.zip us) → Vals vs us → sp vs H Q E →
    codeAny (model P w) A (.call (.ref f) args) (CR CX outer P w H s Q E) s
theorem FnOk.mono {P : Program} {w : World} {K : PySem.W.Frag} {mg : Str → Option Value} {base : Heap} {CX : CXT} {j k : Nat} {f : Addr} {fd : FuncData} {ps : List Str} {sp : Sp} (F : FnOk P w K mg base CX j f fd ps sp) (h : j ≤ k) :
    FnOk P w K mg base CX k f fd ps sp := ⟨F.len, fun A outer s H args us vs Q E hr => F.run A outer s H args us vs Q E (hr.mono h)⟩
theorem Env0.in1 {P : Program} {w : World} {K : PySem.W.Frag} {mg : Str → Option Value} {base : Heap} {A : Around} {outer : List Env} {s : Shared} {H : Hp} (e : Env0 P w K mg base A outer s H) :
    Env0 P w K mg base A.in1 outer s H := ⟨e.frames, e.mod, e.bs, e.bsz, e.funs, e.frf, e.hok, e.bare⟩
section
variable {X : Cx} {pins : List (Addr × Obj)} {σ : St} {H : Hp} {s s' : Shared}
theorem Inv.env0 (I : Inv X pins σ H s) : Env0 X.prog X.w X.K X.mg X.base X.A X.stack s H :=
  ⟨I.ok.frames, I.ok.mod, I.bs, Nat.le_trans I.ok.bsz I.sz, I.stack, I.stkFree, I.hok, I.bare⟩
theorem Inv.after {Q : VK} {u : Value} (I : Inv X pins σ H s) (h : CE X.stack X.prog X.w H s Q u s') : EP X pins σ Q u s' := by
  obtain ⟨v, H', os, bare, un, hok, r, q⟩ := h
  obtain ⟨hh, g, d, t, os'⟩ := s'
  obtain rfl : os' = s.os := os
  exact ⟨v, H', I.call (h' := hh) (g' := g) (d' := d) (t' := t) (ch := []) un hok bare (fun b z => absurd z (by simp)), r, q⟩
end
def tCall (sp : Sp) (dvs : List V) (E : XK) (t : TA) : TE := fun σ H Q => t σ H fun vs H1 => sp (vs ++ dvs) H1 Q E
def Binds (K : PySem.W.Frag) (fd : FuncData) (ps : List Str) (ds : List Value) : Prop :=
  ∀ (s : Shared) (us : List Value), K.In s.heap → (us ++ ds).length = ps.length → BindsTo s fd ⟨us, []⟩ (ps.zip (us ++ ds))
theorem Binds.all {K : PySem.W.Frag} {fd : FuncData} {ps : List Str} (h : ∀ us : List Value, us.length = ps.length → bindArgs fd ⟨us, []⟩ = pure (ps.zip us)) : Binds K fd ps [] := fun s us _ hl => by
  rw [List.append_nil] at hl ⊢
  exact .of_eq (h us hl)
def Passes (CX : CXT) (X : Cx) (E : XK) : Prop := ∀ (pins : List (Addr × Obj)) (σ : St) (H : Hp) (s : Shared) (e : Value) (s' : Shared), Inv X pins σ H s → CX X.stack H s E e s' → X.xe e s'
section
variable {X : Cx} {CX : CXT} {k : Nat} {f C : Addr} {fd : FuncData} {ps : List Str} {sp : Sp} {dvs : List V} {ds : List Value} {E : XK} {x m : Str} {p pos apos : Pos} {e o : Expr} {es : List Expr} {ta : TE} {t : TA}
theorem run_fn {pins : List (Addr × Obj)} {σ : St} {H : Hp} {s : Shared} {Q : VK} {us : List Value} {vs : List V} (F : FnOk X.prog X.w X.K X.mg X.base CX k f fd ps sp) (hr : Room k X.A) (hb : Binds X.K fd ps ds) (hd : Vals dvs ds) (hx : Passes CX X E)
    (I : Inv X pins σ H s) (r : Vals vs us) (h : sp (vs ++ dvs) H Q E) : wpAny (model X.prog X.w) X.A (call (.ref f) us) (EP X pins σ Q) X.xe s := by
  have r2 : Vals (vs ++ dvs) (us ++ ds) := r.append hd
  have hl : (us ++ ds).length = ps.length := by rw [← r2.length]; exact F.len _ _ _ _ h
  refine wpAny_call (codeAny_mono (F.run X.A X.stack s H ⟨us, []⟩ (us ++ ds) (vs ++ dvs) Q E hr I.env0 (hb s us I.kIn hl) r2 h) fun r s' hq => ?_)
  cases r with
  | error e => exact hx pins σ H s e s' I hq
  | ok fl =>
    cases fl with
    | ret u => exact I.after hq
    | next => exact False.elim hq
    | brk => exact False.elim hq
    | cont => exact False.elim hq
theorem pe_call (F : FnOk X.prog X.w X.K X.mg X.base CX k f fd ps sp) (hr : Room k X.A) (hg : Gl X x) (hm : X.mg x = some (.ref f)) (hk : PySem.W.keepIn X.K (.ref f) = true) (hb : Binds X.K fd ps ds) (hd : Vals dvs ds) (hx : Passes CX X E)
    (ha : PA X (e :: es) t) (hdb : (x == ("__debug__" : Str)) = false := by decide) (he : starEach (e :: es) X.env = (false, eval e X.env) :: starEach es X.env := by rfl) (hpl : (backTo pos (starEach es X.env)).any (·.1) = false := by rfl) :
    PE X (.Call (.Name x p) (e :: es) [] pos) (tCall sp dvs E t) := by
  intro pins s σ H Q I h
  refine wpAny_Call_Name_kw (ld_glob I hg hm ?_ hdb)
  refine PySem.W.callWith_K (h₀ := X.base) I.ok.mod.kin hk (thn (ha pos pins s σ H _ I h) fun us s1 ⟨vs, H1, I1, r, q⟩ => ⟨I1.kIn, ?_⟩) he hpl
  exact run_fn F hr hb hd hx I1 r q
end
def PK (X : Cx) (kws : List Keyword) (t : TA) : Prop :=
  ∀ (pos : Pos) (pins : List (Addr × Obj)) (s : Shared) (σ : St) (H : Hp) (Q : List V → Hp → Prop), Inv X pins σ H s → t σ H Q → wpAny (model X.prog X.w) X.A (evalAll ((backToKw pos (keywordEach kws X.env)).map (·.2))) (AP X pins σ Q) X.xe s
section
variable {X : Cx} {CX : CXT} {k : Nat} {f C : Addr} {fd : FuncData} {ps ks : List Str} {sp : Sp} {E : XK} {x m : Str} {p pos apos kpos : Pos} {e o : Expr} {es : List Expr} {kws : List Keyword} {te ta : TE} {t tk : TA} {nm : Option Str}
theorem pk_nil : PK X [] tNil := fun _ _ _ _ H Q I h => wpAny_evalAll_nil ⟨[], H, I, .nil, h⟩
theorem pk_cons (ha : PE X e te) (hr : PK X kws t) : PK X (⟨nm, e, kpos⟩ :: kws) (tCons te t) := by
  intro pos pins s σ H Q I h
  show wpAny _ _ (evalAll ((do let v ← eval e X.env; standAt pos; pure v) :: (backToKw pos (keywordEach kws X.env)).map (·.2))) _ _ s
  refine wpAny_evalAll_cons (wpAny_bind (thn (ha pins s σ H _ I h) fun u s1 ⟨x, H1, I1, r1, q1⟩ => wpAny_bind (wpAny_standAt (wpAny_pure ?_))))
  exact thn (hr pos pins s1 σ H1 _ I1 q1) fun us s2 ⟨xs, H2, I2, r2, q2⟩ => ⟨x :: xs, H2, I2, .cons r1 r2, q2⟩
variable {g : List Value → List Value → List Value} {gV : List V → List V → List V}
end
structure FnScope (N P : List Str) (sc : Scope) : Prop where
  kind : sc.kind = .function
  co : sc.isCoroutine = false
  gen : sc.isGenerator = false
  nd : N.Nodup
  pre : N.take P.length = P
  par : ∀ x ∈ P, sc.names.lookup x = some .local ∨ sc.names.lookup x = some .cell
  nofree : ∀ y ∈ sc.names, y.2 ≠ .free
theorem bindL_out {kindOf : Str → Option NameKind} {x : Str} : ∀ {binds : List (Str × Value)} {m : Str → Option Value}, (∀ v, (x, v) ∉ binds) → bindL kindOf binds m x = m x
  | [], _, _ => rfl
  | (n, v) :: r, m, h => by
    unfold bindL
    rw [bindL_out fun w hw => h w (List.mem_cons_of_mem _ hw)]
    split
    · have : x ≠ n := by rintro rfl; exact h v List.mem_cons_self
      simp [this]
    · rfl
theorem bindC_out {kindOf : Str → Option NameKind} {x : Str} : ∀ {binds : List (Str × Value)} {m : Str → Option Value}, (∀ v, (x, v) ∉ binds) → bindC kindOf binds m x = m x
  | [], _, _ => rfl
  | (n, v) :: r, m, h => by
    unfold bindC
    rw [bindC_out fun w hw => h w (List.mem_cons_of_mem _ hw)]
    split
    · rfl
    · have : x ≠ n := by rintro rfl; exact h v List.mem_cons_self
      simp [this]
theorem bindL_get {kindOf : Str → Option NameKind} {x : Str} {v : Value} : ∀ {P : List Str} {vs : List Value} {i : Nat} {m : Str → Option Value}, P.Nodup → P[i]? = some x → vs[i]? = some v → kindOf x = some .local →
    bindL kindOf (P.zip vs) m x = some v
  | [], _, _, _, _, h, _, _ => by simp at h
  | _ :: _, [], _, _, _, _, h, _ => by simp at h
  | p :: P, w :: vs, 0, m, nd, h1, h2, hk => by
    simp at h1 h2; subst h1; subst h2
    show bindL kindOf ((p, w) :: P.zip vs) m p = _
    unfold bindL
    rw [bindL_out fun v hv => (List.nodup_cons.mp nd).1 (List.of_mem_zip hv).1, if_pos hk]
    simp
  | p :: P, w :: vs, i + 1, m, nd, h1, h2, hk => by
    show bindL kindOf ((p, w) :: P.zip vs) m x = _
    unfold bindL
    exact bindL_get (i := i) (List.nodup_cons.mp nd).2 (by simpa using h1) (by simpa using h2) hk
theorem bindC_get {kindOf : Str → Option NameKind} {x : Str} {v : Value} : ∀ {P : List Str} {vs : List Value} {i : Nat} {m : Str → Option Value}, P.Nodup → P[i]? = some x → vs[i]? = some v → kindOf x ≠ some .local →
    bindC kindOf (P.zip vs) m x = some v
  | [], _, _, _, _, h, _, _ => by simp at h
  | _ :: _, [], _, _, _, _, h, _ => by simp at h
  | p :: P, w :: vs, 0, m, nd, h1, h2, hk => by
    simp at h1 h2; subst h1; subst h2
    show bindC kindOf ((p, w) :: P.zip vs) m p = _
    unfold bindC
    rw [bindC_out fun v hv => (List.nodup_cons.mp nd).1 (List.of_mem_zip hv).1, if_neg hk]
    simp
  | p :: P, w :: vs, i + 1, m, nd, h1, h2, hk => by
    show bindC kindOf ((p, w) :: P.zip vs) m x = _
    unfold bindC
    exact bindC_get (i := i) (List.nodup_cons.mp nd).2 (by simpa using h1) (by simpa using h2) hk
def start (N : List Str) (vs : List V) : St := vs.map some ++ List.replicate (N.length - vs.length) none
def cxOf (CX : CXT) (P : Program) (w : World) (K : PySem.W.Frag) (mg : Str → Option Value) (base : Heap) (N : List Str) (qual : Str) (scope : Scope) (f : Addr) (cd : Value) (A : Around) (outer : List Env) (s : Shared) (H : Hp) (E : XK) : Cx where
  prog := P
  w := w
  K := K
  mg := mg
  base := base
  A := A.deeper (envOfC qual scope s.heap.objs.size f cd)
  N := N
  s₀ := s
  H₀ := H
  env := envOfC qual scope s.heap.objs.size f cd
  outer := outer
  stack := envOfC qual scope s.heap.objs.size f cd :: outer
  ex := []
  calm := true
  fn := fun _ => true
  pn := []
  xe := fun e s' => wpAny (model P w) (A.deeper (envOfC qual scope s.heap.objs.size f cd)) (leaving (envOfC qual scope s.heap.objs.size f cd) e) (fun _ s'' => CX outer H s E e s'') (fun e' s'' => CX outer H s E e' s'') s'
theorem cell_has {sc : Scope} {n : Nat} {x : Str} (h : sc.names.lookup x = some .cell) : ∃ c, (cellsFrom n sc.names []).lookup x = some c := by
  have q := PySem.W.cellsFrom_some sc.names n [] (.inl h)
  exact Option.isSome_iff_exists.mp q
theorem inv_start {CX : CXT} {P : Program} {w : World} {K : PySem.W.Frag} {mg : Str → Option Value} {base : Heap} {N ps : List Str} {qual : Str} {scope : Scope} {f : Addr} {cd : Value} {A : Around} {outer : List Env} {s s1 : Shared} {H : Hp} {E : XK} {us : List Value} {vs : List V}
    (S : FnScope N ps scope) (hd : A.handled = none) (e0 : Env0 P w K mg base A outer s H) (hl : vs.length = ps.length) (r : Vals vs us)
    (x : InCallC s s.heap.objs.size (bindL (envOfC qual scope s.heap.objs.size f cd).kindOf (ps.zip us) fun _ => none) (cellsFrom (s.heap.objs.size + 1) scope.names []) (bindC (envOfC qual scope s.heap.objs.size f cd).kindOf (ps.zip us) fun _ => none) s1) :
    Inv (cxOf CX P w K mg base N qual scope f cd A outer s H E) [] (start N vs) H s1 := by
  have hpl : ps.length ≤ N.length := by have := congrArg List.length S.pre; rw [List.length_take] at this; omega
  obtain ⟨h1, tk, rfl, hk⟩ := x.done
  have noA : ∀ b : Addr, b ∉ (cxOf CX P w K mg base N qual scope f cd A outer s H E).ex := fun b z => absurd (show b ∈ ([] : List Addr) from z) (by simp)
  refine ⟨⟨e0.mod, S.kind, rfl, rfl, Nat.le_refl _, fun y z c h1 h2 => ?_, fun y hy => ?_, fun y c _ h => ?_, fun _ => hd, Around.frames_deeper e0.frames, .inr ⟨rfl, rfl⟩, fun b z => absurd z (noA b), e0.bs, e0.bsz, fun b _ _ => noA b, fun b z => absurd z (noA b), e0.funs, e0.frf⟩,
    rfl, e0.bare, Un.kept hk, ⟨_, x.toInCall.ns, fun i y v h1 h2 h3 => ?_⟩, fun y c h => ⟨_, x.cell y c h⟩, e0.hok.fresh (Nat.le_refl _), fun y c h => ?_, fun p hp => absurd (show p ∈ ([] : List (Addr × Obj)) from hp) (by simp), e0.hok.kept hk, ?_⟩
  · exact name_of_addr x.apart (PySem.mem_of_lookup h1) (PySem.mem_of_lookup h2)
  · have hy : scope.names.lookup y = some .cell ∨ scope.names.lookup y = some .free := hy
    rcases hy with hy | hy
    · exact cell_has hy
    · exact absurd rfl (S.nofree _ (PySem.mem_of_lookup hy))
  · exact Nat.le_of_lt (x.above y c (PySem.mem_of_lookup h))
  · have hi : i < vs.length := by
      unfold start at h2
      by_cases hi : i < vs.length
      · exact hi
      · rw [List.getElem?_append_right (by simpa using hi)] at h2
        rw [List.getElem?_replicate] at h2
        split at h2 <;> cases h2
    have ha : vs[i]? = some v := by
      unfold start at h2
      rw [List.getElem?_append_left (by simpa using hi), List.getElem?_map] at h2
      cases e : vs[i]? with
      | none => rw [e] at h2; cases h2
      | some a => rw [e] at h2; cases h2; rfl
    obtain ⟨u, hu, rv⟩ := r.get ha
    have hp : ps[i]? = some y := by
      rw [← S.pre, List.getElem?_take_of_lt (by omega)]; exact h1
    have ndP : ps.Nodup := by rw [← S.pre]; exact S.nd.sublist (List.take_sublist _ _)
    refine ⟨u, rv, ?_⟩
    rcases S.par y (List.mem_of_getElem? hp) with k | k
    · exact .inl ⟨k, bindL_get ndP hp hu k⟩
    · obtain ⟨c, e⟩ := cell_has (n := s.heap.objs.size + 1) k
      refine .inr ⟨.inl k, c, e, ?_⟩
      have q := x.cell y c e
      rw [bindC_get ndP hp hu (by show scope.names.lookup y ≠ _; rw [k]; decide)] at q
      exact q
  · exact e0.hok.fresh (Nat.le_of_lt (x.above y c (PySem.mem_of_lookup h)))
  · unfold start
    show _ = N.length
    rw [List.length_append, List.length_map, List.length_replicate]
    omega
theorem fn_of {CX : CXT} {P : Program} {w : World} {K : PySem.W.Frag} {mg : Str → Option Value} {base : Heap} {k : Nat} {f : Addr} {name qual : Str} {params : Arguments} {body : List Stmt} {scope : Scope} {dV kV doc pm cdv ct oc : Value} {an od : Option Addr}
    {osl : Array (Option Value)} {N ps : List Str} {sp : Sp} (lk : K.lookup f = some ⟨oc, od, .func (PySem.W.fnOf name qual params body scope dV kV doc pm an cdv ct), osl⟩) (hcd : PySem.W.codeIn K cdv qual = true) (S : FnScope N ps scope)
    (len : ∀ vs H Q E, sp vs H Q E → vs.length = ps.length)
    (hbody : ∀ (A : Around) (outer : List Env) (s : Shared) (H : Hp) (vs : List V) (Q : VK) (E : XK), Room k (A.deeper (envOfC qual scope s.heap.objs.size f cdv)) → sp vs H Q E →
      ∃ t, PSs (cxOf CX P w K mg base N qual scope f cdv A outer s H E) body t ∧ t { nx := fun _ H' => Q .non H', rt := Q } (start N vs) H) :
    FnOk P w K mg base CX (k + 1) f (PySem.W.fnOf name qual params body scope dV kV doc pm an cdv ct) ps sp := by
  refine ⟨len, fun A outer s H args us vs Q E hr e0 hb r hsp => ?_⟩
  have hl := len _ _ _ _ hsp
  have KX : K.In s.heap := e0.mod.kin.keeps fun b o e => (e0.bs b o e).1
  have lim : s.heap.NoLimit := e0.mod.nolimit.keeps fun b o e => (e0.bs b o e).1
  have hkind : ∀ y ∈ ps.zip us, scope.names.lookup y.1 = some .local ∨ (scope.names.lookup y.1 = some .cell ∧ ((cellsFrom (s.heap.objs.size + 1) scope.names []).lookup y.1).isSome = true) := fun ⟨n, v⟩ hy => by
    rcases S.par n (List.of_mem_zip hy).1 with q | q
    · exact .inl q
    · exact .inr ⟨q, PySem.W.cellsFrom_some _ _ _ (.inl q)⟩
  refine codeAny_call_function hr.depth (KX _ _ lk) rfl S.co S.gen rfl (PySem.W.codeRec_of KX hcd) (hb _ _ _ _ ?_)
  refine wpAny_newFunctionEnv_cells S.kind hkind fun env he s1 x => ?_
  subst he
  refine ⟨lim.keeps x.toInCall.keep, codeAny_func ?_⟩
  obtain ⟨t, ht, hq⟩ := hbody A outer s H vs Q E (hr.deeper _) hsp
  have I : Inv (cxOf CX P w K mg base N qual scope f cdv A outer s H E) [] (start N vs) H s1 := inv_start S hr.hd e0 hl r x
  refine wpAny_mono (ht [] s1 (start N vs) H _ I hq) (fun fl s' hs => ?_) fun e s' hs => hs
  have fin : ∀ {σ' : St} {H' : Hp} {v : V} {u : Value}, Inv (cxOf CX P w K mg base N qual scope f cdv A outer s H E) [] σ' H' s' → RelV v u → Q v H' → CE outer P w H s Q u s' :=
    fun {σ' H' v u} J rv q => ⟨v, H', J.os, J.bare, J.base, J.hok, rv, q⟩
  cases fl with
  | ret u =>
    obtain ⟨v, σ', H', J, rv, q⟩ := hs
    exact fin J rv q
  | next =>
    obtain ⟨σ', H', J, q⟩ := hs
    exact fin (v := V.non) (u := Value.none) J rfl q
  | brk =>
    obtain ⟨_, _, _, q⟩ := hs
    exact False.elim q
  | cont =>
    obtain ⟨_, _, _, q⟩ := hs
    exact False.elim q
end L2
namespace L2
open PySem PySem.Spec PyProof.Rows
section
variable {X : Cx} {x : Str} {p pos : Pos} {e : Expr} {es : List Expr} {t : TA} {id T : String} {r : List V → Hp → VK → Prop}
def tCB (r : List V → Hp → VK → Prop) (t : TA) : TE := fun σ H Q => t σ H fun vs H1 => r vs H1 Q
theorem pe_callB (hc : CallR X (.builtin id) r) (hg : Gl X x) (hm : X.mg x = none) (hv : bootBuiltins x = some (.builtin id)) (ha : PA X (e :: es) t) (hn : x ≠ "__name__" := by decide) (hdb : (x == ("__debug__" : Str)) = false := by decide)
    (he : starEach (e :: es) X.env = (false, eval e X.env) :: starEach es X.env := by rfl) (hpl : (backTo pos (starEach es X.env)).any (·.1) = false := by rfl) : PE X (.Call (.Name x p) (e :: es) [] pos) (tCB r t) := by
  intro pins s σ H Q I h
  refine wpAny_Call_Name_kw (ld_blt I hg hm hv ?_ hn hdb)
  exact PyProof.Rows.callWith_builtin1 (thn (ha pos pins s σ H _ I h) fun us s1 ⟨vs, H1, I1, r1, q1⟩ => hc pins s1 σ H1 vs us Q I1 r1 q1) he hpl
theorem pe_callTy (hc : CallR X (.type T) r) (hg : Gl X x) (hm : X.mg x = none) (hv : bootBuiltins x = some (.type T)) (ha : PA X (e :: es) t) (hn : x ≠ "__name__" := by decide) (hdb : (x == ("__debug__" : Str)) = false := by decide)
    (he : starEach (e :: es) X.env = (false, eval e X.env) :: starEach es X.env := by rfl) (hpl : (backTo pos (starEach es X.env)).any (·.1) = false := by rfl) : PE X (.Call (.Name x p) (e :: es) [] pos) (tCB r t) := by
  intro pins s σ H Q I h
  refine wpAny_Call_Name_kw (ld_blt I hg hm hv ?_ hn hdb)
  exact PyProof.Rows.callWith_type1 (thn (ha pos pins s σ H _ I h) fun us s1 ⟨vs, H1, I1, r1, q1⟩ => hc pins s1 σ H1 vs us Q I1 r1 q1) he hpl
end
end L2
namespace HT
open PySem PyProof.Rows
section
open PySem.SeqAt
open PySem.AutoSeq1 (wpAny_loadPart')
open PySem.MeetsSeq PySem.MeetsSeq2 PySem.MeetsSeq3
end
section
variable {prog : Program} {w : World} {A : Around} {E : Value → Shared → Prop} {s : Shared}
def sIx (n d : Nat) : Option Int → Nat
  | none => d
  | some v => if v < 0 then (v + (n : Int)).toNat else min v.toNat n
theorem sIx_nat (n d k : Nat) : sIx n d (some (k : Int)) = min k n := by
  show (if (k : Int) < 0 then ((k : Int) + (n : Int)).toNat else min (k : Int).toNat n) = min k n
  rw [if_neg (by omega), Int.toNat_natCast]
end
end HT
namespace L2
open PySem PySem.Spec PyProof.Rows
abbrev TO := St → Hp → (Option Int → Hp → Prop) → Prop
def PO (X : Cx) (e : Option Expr) (t : TO) : Prop :=
  ∀ (pins : List (Addr × Obj)) (s : Shared) (σ : St) (H : Hp) (Q : Option Int → Hp → Prop), Inv X pins σ H s → t σ H Q →
    wpAny (model X.prog X.w) X.A (evalPart e X.env) (fun u s' => ∃ o H', Inv X pins σ H' s' ∧ IsPart u o ∧ Q o H') X.xe s
def tNoPart : TO := fun _ H Q => Q none H
def tPart (t : TE) : TO := fun σ H Q => t σ H fun x H1 => ∃ i, x = .int i ∧ Q (some i) H1
theorem intsAre_of {ns : List Int} : ∀ {us : List Value}, Vals (ns.map V.int) us → IntsAre us ns := by
  induction ns with
  | nil => intro us r; rw [List.map_nil] at r; cases r; exact .nil
  | cons n ns ih =>
    intro us r
    rw [List.map_cons] at r
    cases r with
    | cons r1 r2 =>
      obtain ⟨t, e⟩ := r1
      subst e
      exact .cons n t (ih r2)
section
variable {X : Cx} {e : Expr} {te : TE} {lo hi : Option Expr} {tl th : TO} {pos p2 : Pos}
theorem po_none : PO X none tNoPart := by
  intro pins s σ H Q I h
  rw [evalPart_none]
  exact wpAny_pure ⟨none, H, I, .none, h⟩
theorem po_some (h : PE X e te) : PO X (some e) (tPart te) := by
  intro pins s σ H Q I hw
  rw [evalPart_some]
  refine thn (h pins s σ H _ I hw) fun u s1 ⟨x, H1, I1, r1, q1⟩ => ?_
  obtain ⟨i, rfl, q⟩ := q1
  obtain ⟨t, rfl⟩ := r1
  exact ⟨some i, H1, I1, .int i t, q⟩
def SlR (X : Cx) (r : V → Option Int → Option Int → Hp → VK → Prop) : Prop :=
  ∀ (pins : List (Addr × Obj)) (s : Shared) (σ : St) (H : Hp) (x : V) (v vl vu : Value) (lo hi : Option Int) (sl : Addr) (Q : VK), Inv X pins σ H s → RelV x v → s.heap.IsSliceOf sl vl vu .none → IsPart vl lo → IsPart vu hi → r x lo hi H Q →
    ∃ T id, typeLookup (.type T) "__getitem__" = pure (some (.builtin id)) ∧ s.TypeIs v T ∧ wpAny (model X.prog X.w) X.A (getItem v (.ref sl)) (EP X pins σ Q) X.xe s
theorem SlR.or {r r' : V → Option Int → Option Int → Hp → VK → Prop} (h : SlR X r) (h' : SlR X r') : SlR X (fun x lo hi H Q => r x lo hi H Q ∨ r' x lo hi H Q) := by
  intro pins s σ H x v vl vu lo hi sl Q I rx hs pl pu q
  rcases q with q | q
  · exact h pins s σ H x v vl vu lo hi sl Q I rx hs pl pu q
  · exact h' pins s σ H x v vl vu lo hi sl Q I rx hs pl pu q
def tSl (r : V → Option Int → Option Int → Hp → VK → Prop) (te : TE) (tl th : TO) : TE := fun σ H Q => te σ H fun x H1 => tl σ H1 fun l H2 => th σ H2 fun u H3 => r x l u H3 Q
theorem pe_slice {r : V → Option Int → Option Int → Hp → VK → Prop} (hr : SlR X r) (he : PE X e te) (hl : PO X lo tl) (hu : PO X hi th) : PE X (.Subscript e (.Slice lo hi none p2) pos) (tSl r te tl th) := by
  intro pins s σ H Q I h
  refine Subscript_ (thn (he pins s σ H _ I h) fun v s1 ⟨x, H1, I1, r1, q1⟩ => ?_)
  refine wpAny_Slice (thn (hl pins s1 σ H1 _ I1 q1) fun vl s2 ⟨l, H2, I2, pl, q2⟩ => thn (hu pins s2 σ H2 _ I2 q2) fun vu s3 ⟨u, H3, I3, pu, q3⟩ => ?_)
  rw [evalPart_none]
  refine wpAny_pure ?_
  have I4 : Inv X pins σ H3 { s3 with heap := s3.heap.push { cls := .type "slice", data := .fields #[vl, vu, .none] } } := I3.kept (t' := s3.toks) fun b ob q => Heap.get?_push_of_some _ q
  obtain ⟨T, id, hT, ht, hg⟩ := hr pins { s3 with heap := s3.heap.push { cls := .type "slice", data := .fields #[vl, vu, .none] } } σ H3 x v vl vu l u s3.heap.objs.size Q I4 r1 (Heap.IsSliceOf.new ..) pl pu q3
  show wpAny (model X.prog X.w) X.A (subscriptTail e (.Slice lo hi none p2) v (.ref s3.heap.objs.size)) (EP X pins σ Q) X.xe { s3 with heap := s3.heap.push { cls := .type "slice", data := .fields #[vl, vu, .none] } }
  exact tail_any (ops := [.ref s3.heap.objs.size, v]) ht hT hg (by with_unfolding_all rfl)
def cutV (xs : List V) (lo hi : Option Int) : List V := (xs.drop (HT.sIx xs.length 0 lo)).take (HT.sIx xs.length xs.length hi - HT.sIx xs.length 0 lo)
theorem cutV_length (xs : List V) (lo hi : Option Int) : (cutV xs lo hi).length ≤ xs.length := by
  unfold cutV
  rw [List.length_take, List.length_drop]
  omega
end
end L2
namespace L2
open PySem PySem.Spec PyProof.Rows
def ixN (n : Nat) (i : Int) : Option Nat := if 0 ≤ i then (if i < n then some i.toNat else none) else if -(n : Int) ≤ i then some (i + n).toNat else none
def atI {α : Type} (xs : List α) (i : Int) : Option α := (ixN xs.length i).bind fun j => xs[j]?
theorem ixN_seq {n : Nat} {i : Int} {j : Nat} (h : ixN n i = some j) : seqIndex? i n = some j ∧ j < n ∧ -(n : Int) ≤ i ∧ i < n := by
  unfold ixN at h
  by_cases h0 : 0 ≤ i
  · rw [if_pos h0] at h
    by_cases h1 : i < n
    · rw [if_pos h1] at h
      have e : i.toNat = j := Option.some.inj h
      exact ⟨by rw [seqIndex_of h0 h1, e], by omega, by omega, h1⟩
    · rw [if_neg h1] at h; cases h
  · rw [if_neg h0] at h
    by_cases h1 : -(n : Int) ≤ i
    · rw [if_pos h1] at h
      have e : (i + n).toNat = j := Option.some.inj h
      exact ⟨by rw [seqIndex_neg (by omega) h1, e], by omega, h1, by omega⟩
    · rw [if_neg h1] at h; cases h
theorem atI_get {α : Type} {xs : List α} {i : Int} {v : α} (h : atI xs i = some v) : ∃ j, seqIndex? i xs.length = some j ∧ xs[j]? = some v ∧ j < xs.length ∧ -(xs.length : Int) ≤ i ∧ i < xs.length := by
  unfold atI at h
  cases e : ixN xs.length i with
  | none => rw [e] at h; cases h
  | some j =>
    rw [e] at h
    obtain ⟨h1, h2, h3, h4⟩ := ixN_seq e
    exact ⟨j, h1, h, h2, h3, h4⟩
theorem atI_nat {α : Type} {xs : List α} {j : Nat} {v : α} (h : xs[j]? = some v) : atI xs (j : Int) = some v := by
  have hj : j < xs.length := (List.getElem?_eq_some_iff.mp h).1
  have e : ixN xs.length (j : Int) = some j := by
    unfold ixN
    rw [if_pos (by omega), if_pos (by omega)]; simp
  unfold atI; rw [e]; exact h
theorem atI_last {α : Type} (xs : List α) (v : α) : atI (xs ++ [v]) (-1) = some v := by
  have hl : (xs ++ [v]).length = xs.length + 1 := by simp
  have e : ixN (xs ++ [v]).length (-1) = some xs.length := by
    unfold ixN
    rw [hl, if_neg (by decide), if_pos (by omega)]
    congr 1
    omega
  unfold atI
  rw [e]
  show (xs ++ [v])[xs.length]? = some v
  simp
def PlainIx (b : Expr) : Prop := ∀ o i, subscripted b false o i = operate [o, i] (getItem o i)
def IxR (X : Cx) (r : R2) : Prop :=
  ∀ (value slice : Expr) (pins : List (Addr × Obj)) (s : Shared) (σ : St) (H : Hp) (x y : V) (v u : Value) (Q : VK), Inv X pins σ H s → RelV x v → RelV y u → r x y H Q →
    subscripted slice false v u = operate [v, u] (getItem v u) → wpAny (model X.prog X.w) X.A (subscriptTail value slice v u) (EP X pins σ Q) X.xe s
def MtR (X : Cx) (id : String) (r : V → List V → Hp → VK → Prop) : Prop :=
  ∀ (pins : List (Addr × Obj)) (s : Shared) (σ : St) (H : Hp) (x : V) (xs : List V) (v : Value) (us : List Value) (Q : VK), Inv X pins σ H s → RelV x v → Vals xs us → r x xs H Q →
    wpAny (model X.prog X.w) X.A (call (.builtin id) (v :: us)) (EP X pins σ Q) X.xe s
section
variable {X : Cx} {a b : Expr} {ta tb : TE} {pos : Pos}
theorem IxR.or {r r' : R2} (h : IxR X r) (h' : IxR X r') : IxR X (fun x y H Q => r x y H Q ∨ r' x y H Q) := by
  intro value slice pins s σ H x y v u Q I rx ry q hs
  rcases q with q | q
  · exact h value slice pins s σ H x y v u Q I rx ry q hs
  · exact h' value slice pins s σ H x y v u Q I rx ry q hs
theorem MtR.or {id : String} {r r' : V → List V → Hp → VK → Prop} (h : MtR X id r) (h' : MtR X id r') : MtR X id (fun x xs H Q => r x xs H Q ∨ r' x xs H Q) := by
  intro pins s σ H x xs v us Q I rx rs q
  rcases q with q | q
  · exact h pins s σ H x xs v us Q I rx rs q
  · exact h' pins s σ H x xs v us Q I rx rs q
theorem pe_ix {r : R2} (hr : IxR X r) (ha : PE X a ta) (hb : PE X b tb) (hs : PlainIx b) : PE X (.Subscript a b pos) (tOp r ta tb) := by
  intro pins s σ H Q I h
  exact Subscript_ (binT ha hb I h fun v u s2 x y H2 I2 rx ry q => hr a b pins s2 σ H2 x y v u Q I2 rx ry q (hs _ _))
def rIxL (K : PySem.W.Frag) : R2 := fun x y H Q => ∃ p xs i v, x = .ref p ∧ y = .int i ∧ SqL K H p xs ∧ atI xs i = some v ∧ Q v H
def rIxT (K : PySem.W.Frag) : R2 := fun x y H Q => ∃ p xs i v, x = .ref p ∧ y = .int i ∧ SqT K H p xs ∧ atI xs i = some v ∧ Q v H
def rIxS : R2 := fun x y H Q => ∃ z i c, x = .str z ∧ y = .int i ∧ z.length ≤ sizeLine ∧ atI z.cps.toList i = some c ∧ Q (.str ⟨#[c]⟩) H
theorem ix_list : IxR X (rIxL X.K) := by
  intro value slice pins s σ H x y v u Q I rx ry h hs
  obtain ⟨p, xs, i, z, rfl, rfl, hq, he, q⟩ := h
  cases rx
  obtain ⟨t, rfl⟩ := ry
  obtain ⟨its, r, pl, hz⟩ := I.list hq
  obtain ⟨j, h1, h2, h3, h4, h5⟩ := atI_get he
  obtain ⟨w, ew, rw'⟩ := r.get h2
  have hl := r.length
  have hn := line63
  have fin : EP X pins σ Q w s := ⟨z, H, I, rw', q⟩
  by_cases h0 : 0 ≤ i
  · have hj : i.toNat = j := by
      rw [seqIndex_of h0 h5] at h1
      exact Option.some.inj h1
    exact item_listR pl.isList h0 (by omega) (by rw [hj]; simpa using ew) fin hs
  · have hj : (i + (its.toArray.size : Int)).toNat = j := by
      rw [seqIndex_neg (by omega) h4] at h1
      rw [List.size_toArray, ← hl]
      exact Option.some.inj h1
    exact subscriptTail_builtinR (x := w) pl.isList.typeIs slot_list_getitem.lookup
      (wpAny_getItem_list_neg (Q := fun r s' => r = w ∧ EP X pins σ Q r s') pl.isList (by omega) (by rw [List.size_toArray] <;> omega) (by omega) (by rw [hj]; simpa using ew) ⟨rfl, fin⟩) hs
theorem ix_tup : IxR X (rIxT X.K) := by
  intro value slice pins s σ H x y v u Q I rx ry h hs
  obtain ⟨p, xs, i, z, rfl, rfl, hq, he, q⟩ := h
  cases rx
  obtain ⟨t, rfl⟩ := ry
  obtain ⟨its, r, pl, hz⟩ := I.tuple hq
  obtain ⟨j, h1, h2, h3, h4, h5⟩ := atI_get he
  obtain ⟨w, ew, rw'⟩ := r.get h2
  have hl := r.length
  have hn := line63
  have fin : EP X pins σ Q w s := ⟨z, H, I, rw', q⟩
  exact subscriptTail_builtinR (x := w) pl.typeIs slot_tuple_getitem.lookup
    (getItem_tuple (j := j) (Q := fun r s' => r = w ∧ EP X pins σ Q r s') pl (by omega) (by omega) (by rw [List.size_toArray, ← hl]; exact h1) (by simpa using ew) ⟨rfl, fin⟩) hs
theorem ix_str : IxR X rIxS := by
  intro value slice pins s σ H x y v u Q I rx ry h hs
  obtain ⟨z, i, c, rfl, rfl, hz, he, q⟩ := h
  obtain ⟨t, rfl⟩ := rx
  obtain ⟨t', rfl⟩ := ry
  obtain ⟨j, h1, h2, h3, h4, h5⟩ := atI_get he
  have hl : z.cps.toList.length = z.length := by simp [Str.length]
  rw [hl] at h1 h4 h5
  have hn := line63
  exact tail_any (typeIs_str s z t) slot_str_getitem.lookup (getItem_str (c := c) (by
    have e1 : decide (i < -(2 ^ 63 : Int)) = false := decide_eq_false (by omega)
    have e2 : decide (i ≥ 2 ^ 63) = false := decide_eq_false (by omega)
    rw [e1, e2, Bool.or_false]) (by rw [h1]; simpa using h2) ⟨.str ⟨#[c]⟩, H, I.tok _, ⟨_, rfl⟩, q⟩) hs
theorem Inv.lst {pins : List (Addr × Obj)} {σ : St} {H : Hp} {s : Shared} {p : Addr} {xs : List V} (I : Inv X pins σ H s) (h : H p = some (.lst xs)) :
    ∃ (its : List Value) (n : Nat), Vals xs its ∧ s.heap.get? p = some { cls := .type "list", data := .seq its.toArray n } ∧ xs.length ≤ sizeLine := by
  obtain ⟨z, its, n, r, e⟩ := I.hok p _ h
  exact ⟨its, n, r, e, z⟩
theorem slice_bounds (lo hi : Option Int) (n : Nat) : (sliceBounds lo hi none n).1 = ((HT.sIx n 0 lo : Nat) : Int) ∧ (sliceBounds lo hi none n).2.1 = ((HT.sIx n n hi : Nat) : Int) ∧ (sliceBounds lo hi none n).2.2 = 1 := by
  refine ⟨?_, ?_, rfl⟩
  · cases lo with
    | none => simp [sliceBounds, HT.sIx]
    | some i =>
      simp only [sliceBounds, HT.sIx, Option.getD_none, show (1 : Int) > 0 by decide, if_true]
      by_cases h : i < 0
      · simp only [h, if_true] <;> omega
      · simp only [h, if_false] <;> omega
  · cases hi with
    | none => simp [sliceBounds, HT.sIx]
    | some i =>
      simp only [sliceBounds, HT.sIx, Option.getD_none, show (1 : Int) > 0 by decide, if_true]
      by_cases h : i < 0
      · simp only [h, if_true] <;> omega
      · simp only [h, if_false] <;> omega
theorem slicePick_cut (its : List Value) (lo hi : Option Int) : slicePick its.toArray lo hi none = ((its.drop (HT.sIx its.length 0 lo)).take (HT.sIx its.length its.length hi - HT.sIx its.length 0 lo)).toArray := by
  obtain ⟨h1, h2, h3⟩ := slice_bounds lo hi its.toArray.size
  unfold slicePick
  rw [h1, h2, h3]
  simp only [sliceRange_one, pick_run, List.size_toArray] <;> rfl
def rSlL (K : PySem.W.Frag) : V → Option Int → Option Int → Hp → VK → Prop := fun x lo hi H Q => ∃ a xs, x = .ref a ∧ SqL K H a xs ∧ ∀ p, H p = none → Q (.ref p) (upd H p (.lst (cutV xs lo hi)))
theorem sl_list : SlR X (rSlL X.K) := by
  intro pins s σ H x v vl vu lo hi sl Q I rx hs pl pu h
  obtain ⟨a, xs, rfl, hx, q⟩ := h
  cases rx
  obtain ⟨its, r, ht, hz⟩ := I.list hx
  have hlen := r.length
  refine ⟨"list", _, slot_list_getitem.lookup, ht.isList.typeIs, ?_⟩
  refine wpAny_getItem_list_slice ht.isList hs pl pu .none (by simp) ?_ (by rw [List.size_toArray] <;> omega)
  rw [slicePick_cut, ← hlen]
  refine ⟨.ref s.heap.objs.size, _, I.laid (t' := s.toks) (o := .lst (cutV xs lo hi)) (fun b ob q => Heap.get?_push_of_some _ q) (Nat.le_refl _) ?_, rfl, q _ (I.hok.fresh (Nat.le_refl _))⟩
  exact ⟨Nat.le_trans (cutV_length xs lo hi) hz, _, 0, (r.drop (HT.sIx xs.length 0 lo)).take (HT.sIx xs.length xs.length hi - HT.sIx xs.length 0 lo), Heap.get?_push_size _ rfl⟩
def flatV : V → Bool
  | .non => true
  | .bl _ => true
  | .int _ => true
  | .str _ => true
  | _ => false
def eqV : V → V → Bool
  | .non, .non => true
  | .bl a, .bl b => a == b
  | .bl a, .int b => (if a then 1 else 0) == b
  | .int a, .bl b => a == (if b then 1 else 0)
  | .int a, .int b => a == b
  | .str a, .str b => a == b
  | _, _ => false
theorem eqAt_V {A : Around} {s : Shared} {y x : V} {u v : Value} (ry : RelV y u) (rx : RelV x v) (fy : flatV y = true) (fx : flatV x = true) : SeqAt.EqAt A s u v (eqV y x) := by
  cases y with
  | non =>
    cases ry
    cases x with
    | non => cases rx; exact SeqAt.EqAt.same _
    | bl b => cases rx; exact SeqAt.EqAt.none_bool b
    | int b => obtain ⟨t, rfl⟩ := rx; exact SeqAt.EqAt.none_int b t
    | str b => obtain ⟨t, rfl⟩ := rx; exact SeqAt.EqAt.none_str b t
    | _ => exact absurd (show false = true from fx) Bool.false_ne_true
  | bl a =>
    cases ry
    cases x with
    | non => cases rx; exact SeqAt.EqAt.bool_none a
    | bl b => cases rx; exact SeqAt.EqAt.bool_bool a b
    | int b => obtain ⟨t, rfl⟩ := rx; exact SeqAt.EqAt.bool_int a b t
    | str b => obtain ⟨t, rfl⟩ := rx; exact SeqAt.EqAt.bool_str a b t
    | _ => exact absurd (show false = true from fx) Bool.false_ne_true
  | int a =>
    obtain ⟨t', rfl⟩ := ry
    cases x with
    | non => cases rx; exact SeqAt.EqAt.int_none a t'
    | bl b => cases rx; exact SeqAt.EqAt.int_bool a t' b
    | int b => obtain ⟨t, rfl⟩ := rx; exact SeqAt.EqAt.int_int a t' b t
    | str b => obtain ⟨t, rfl⟩ := rx; exact SeqAt.EqAt.int_str a t' b t
    | _ => exact absurd (show false = true from fx) Bool.false_ne_true
  | str a =>
    obtain ⟨t', rfl⟩ := ry
    cases x with
    | non => cases rx; exact SeqAt.EqAt.str_none a t'
    | bl b => cases rx; exact SeqAt.EqAt.str_bool a t' b
    | int b => obtain ⟨t, rfl⟩ := rx; exact SeqAt.EqAt.str_int a t' b t
    | str b => obtain ⟨t, rfl⟩ := rx; exact SeqAt.EqAt.str_str a t' b t
    | _ => exact absurd (show false = true from fx) Bool.false_ne_true
  | _ => exact absurd (show false = true from fy) Bool.false_ne_true
def eqU (x : V) (u : Value) : Bool := match u with
  | .none => eqV .non x
  | .bool b => eqV (.bl b) x
  | .int i _ => eqV (.int i) x
  | .str z _ => eqV (.str z) x
  | _ => false
theorem eqU_of {x y : V} {u : Value} (r : RelV y u) (f : flatV y = true) : eqU x u = eqV y x := by
  cases y with
  | non => cases r; rfl
  | bl b => cases r; rfl
  | int i => obtain ⟨t, rfl⟩ := r; rfl
  | str z => obtain ⟨t, rfl⟩ := r; rfl
  | _ => exact absurd (show false = true from f) Bool.false_ne_true
theorem any_eqU {x : V} : ∀ {xs : List V} {us : List Value}, Vals xs us → xs.all flatV = true → us.any (eqU x) = xs.any fun y => eqV y x
  | _, _, .nil, _ => rfl
  | y :: xs, u :: us, .cons r t, f => by
    rw [List.all_cons, Bool.and_eq_true] at f
    rw [List.any_cons, List.any_cons, eqU_of r f.1, any_eqU t f.2]
theorem mem_eqAt {A : Around} {s : Shared} {x : V} {v : Value} (rx : RelV x v) (fx : flatV x = true) : ∀ {xs : List V} {us : List Value}, Vals xs us → xs.all flatV = true → ∀ u ∈ us, SeqAt.EqAt A s u v (eqU x u)
  | _, _, .nil, _ => fun u hu => by cases hu
  | y :: xs, u :: us, .cons r t, f => fun u' hu => by
    rw [List.all_cons, Bool.and_eq_true] at f
    rcases List.mem_cons.mp hu with rfl | hu
    · rw [eqU_of r f.1]; exact eqAt_V r rx f.1 fx
    · exact mem_eqAt rx fx t f.2 u' hu
def inV (x : V) (xs : List V) : Bool := xs.any fun y => eqV y x
def rIn (K : PySem.W.Frag) (neg : Bool) : R2 := fun x y H Q => ∃ p xs, y = .ref p ∧ (SqL K H p xs ∨ SqT K H p xs) ∧ flatV x = true ∧ xs.all flatV = true ∧ Q (.bl (if neg then !inV x xs else inV x xs)) H
theorem op_in_seq : OpR X (compareOp .In) (rIn X.K false) := by
  intro pins s σ H x y v u Q I rx ry h
  obtain ⟨p, xs, rfl, hq, fx, fs, q⟩ := h
  cases ry
  rcases hq with hq | hq
  · obtain ⟨its, r, pl, hz⟩ := I.list hq
    refine SeqAt.in_listAt (eqU x) pl.isList (fun w hw => mem_eqAt rx fx r fs w (by simpa using hw)) ⟨.bl _, H, I, rfl, ?_⟩
    rw [show its.toArray.any (eqU x) = its.any (eqU x) by simp, any_eqU r fs]
    exact q
  · obtain ⟨its, r, pl, hz⟩ := I.tuple hq
    refine SeqAt.in_tupleAt (eqU x) pl (fun w hw => mem_eqAt rx fx r fs w (by simpa using hw)) ⟨.bl _, H, I, rfl, ?_⟩
    rw [show its.toArray.any (eqU x) = its.any (eqU x) by simp, any_eqU r fs]
    exact q
theorem CallR.or {f : Value} {r r' : List V → Hp → VK → Prop} (h : CallR X f r) (h' : CallR X f r') : CallR X f (fun xs H Q => r xs H Q ∨ r' xs H Q) := by
  intro pins s σ H xs us Q I rs q
  rcases q with q | q
  · exact h pins s σ H xs us Q I rs q
  · exact h' pins s σ H xs us Q I rs q
theorem call_list_of : CallR X (.type "list") (fun xs H Q => ∃ p ys, xs = [.ref p] ∧ (SqL X.K H p ys ∨ SqT X.K H p ys) ∧ ∀ l, H l = none → Q (.ref l) (upd H l (.lst ys))) := by
  intro pins s σ H xs us Q I r h
  obtain ⟨p, ys, rfl, hq, q⟩ := h
  obtain ⟨u, rfl, rx⟩ := vals1 r
  cases rx
  have fin : ∀ (its : List Value), Vals ys its → ys.length ≤ sizeLine → ∀ (h' : Heap) (c' : Nat), (∀ b o', s.heap.get? b = some o' → h'.get? b = some o') →
      h'.get? s.heap.objs.size = some { cls := .type "list", dict := none, data := .seq its.toArray c', slots := #[] } → EP X pins σ Q (.ref s.heap.objs.size) { s with heap := h' } := fun its r' hz h' c' kp e =>
    ⟨.ref s.heap.objs.size, _, I.laid (t' := s.toks) kp (Nat.le_refl _) (show ObjOk X.prog X.w _ h' _ (.lst ys) from ⟨hz, its, c', r', e⟩), rfl, q _ (I.hok.fresh (Nat.le_refl _))⟩
  rcases hq with hq | hq
  · obtain ⟨its, r', pl, hz⟩ := I.list hq
    have hlen := r'.length
    obtain ⟨o, ho, hc, n, hd⟩ := pl.isList
    exact call_list_seq p (.inl rfl) ho hc hd (fun h' c' kp e => fin its r' hz h' c' kp e) (by simp only [List.size_toArray] <;> omega)
  · obtain ⟨its, r', pl, hz⟩ := I.tuple hq
    have hlen := r'.length
    obtain ⟨o, ho, hc, n, hd⟩ := pl
    exact call_list_seq p (.inr rfl) ho hc hd (fun h' c' kp e => fin its r' hz h' c' kp e) (by simp only [List.size_toArray] <;> omega)
theorem call_tuple_of : CallR X (.type "tuple") (fun xs H Q => ∃ p ys, xs = [.ref p] ∧ ((SqL X.K H p ys ∧ ∀ l, H l = none → Q (.ref l) (upd H l (.tup ys))) ∨ (SqT X.K H p ys ∧ Q (.ref p) H))) := by
  intro pins s σ H xs us Q I r h
  obtain ⟨p, ys, rfl, h⟩ := h
  obtain ⟨u, rfl, rx⟩ := vals1 r
  cases rx
  rcases h with ⟨hq, q⟩ | ⟨hq, q⟩
  · obtain ⟨its, r', pl, hz⟩ := I.list hq
    have hlen := r'.length
    refine call_tuple_list pl.isList (fun h' kp => ?_) (by simp only [List.size_toArray] <;> omega)
    have I1 : Inv X pins σ H { s with heap := h' } := I.kept (t' := s.toks) kp
    have I2 : Inv X pins σ (upd H h'.objs.size (.tup ys)) { s with heap := h'.push { cls := .type "tuple", data := .seq its.toArray } } :=
      I1.laid (t' := s.toks) (fun b o e => Heap.get?_push_of_some _ e) (Nat.le_refl _) (show ObjOk X.prog X.w _ _ _ (.tup ys) from ⟨hz, its, r', IsTup.new _ _⟩)
    exact ⟨.ref h'.objs.size, _, I2, rfl, q _ (I1.hok.fresh (Nat.le_refl _))⟩
  · obtain ⟨its, r', pl, hz⟩ := I.tuple hq
    exact call_tuple_same pl ⟨.ref p, H, I, rfl, q⟩
def tyV (K : PySem.W.Frag) (T : String) (x : V) (H : Hp) : Prop := match x with
  | .str _ => T = "str"
  | .int _ => T = "int"
  | .ref p => (T = "list" ∧ ∃ xs, SqL K H p xs) ∨ (T = "tuple" ∧ ∃ o, K.lookup p = some o ∧ o.cls = .type "tuple" ∧ o.dict = none) ∨
      (T = "dict" ∧ ((∃ kvs, H p = some (.dK kvs)) ∨ ∃ kvs, H p = some (.dT kvs))) ∨ (T = "set" ∧ ∃ S n, H p = some (.set S n))
  | _ => False
theorem tyV_is {pins : List (Addr × Obj)} {σ : St} {H : Hp} {s : Shared} {T : String} {x : V} {v : Value} (I : Inv X pins σ H s) (r : RelV x v) (ty : tyV X.K T x H) :
    s.TypeIs v T ∧ ∀ a, v = .ref a → ∃ ob, s.heap.get? a = some ob ∧ ob.dict = none := by
  cases x with
  | str z =>
    obtain ⟨t, rfl⟩ := r
    cases (show T = "str" from ty)
    exact ⟨typeIs_str s z t, fun _ e => nomatch e⟩
  | int i =>
    obtain ⟨t, rfl⟩ := r
    cases (show T = "int" from ty)
    exact ⟨typeIs_int s i t, fun _ e => nomatch e⟩
  | ref p =>
    cases r
    rcases ty with ⟨rfl, xs, hq⟩ | ⟨rfl, o, hk, hc, hd⟩ | ⟨rfl, hk⟩ | ⟨rfl, S, n, hk⟩
    · obtain ⟨its, _, pl, _⟩ := I.list hq
      refine ⟨pl.isList.typeIs, fun a e => ?_⟩
      cases e
      obtain ⟨o, n, e, c, hd, _⟩ := pl
      exact ⟨o, e, hd⟩
    · refine ⟨⟨o, I.kIn p o hk, hc⟩, fun a e => ?_⟩
      cases e
      exact ⟨o, I.kIn _ o hk, hd⟩
    · have z : ∃ o, s.heap.get? p = some o ∧ o.ExactDict := by
        rcases hk with ⟨kvs, hk⟩ | ⟨kvs, hk⟩
        · obtain ⟨_, _, _, _, o, _, _, e, ex, _⟩ := I.hok p _ hk
          exact ⟨o, e, ex⟩
        · obtain ⟨_, _, _, _, o, _, _, e, ex, _⟩ := I.hok p _ hk
          exact ⟨o, e, ex⟩
      obtain ⟨o, e, ex⟩ := z
      refine ⟨⟨o, e, ex.1⟩, fun a e2 => ?_⟩
      cases e2
      exact ⟨o, e, ex.2.1⟩
    · obtain ⟨o, _, _, _, e, ex, _⟩ := I.hok p _ hk
      refine ⟨⟨o, e, ex.1⟩, fun a e2 => ?_⟩
      cases e2
      exact ⟨o, e, ex.2.1⟩
  | _ => exact False.elim ty
def tBM0 (K : PySem.W.Frag) (T : String) (r : V → List V → Hp → VK → Prop) (to : TE) : TE := fun σ H Q => to σ H fun x H1 => tyV K T x H1 ∧ r x [] H1 Q
def tBM (K : PySem.W.Frag) (T : String) (r : V → List V → Hp → VK → Prop) (to : TE) (t : TA) : TE := fun σ H Q => to σ H fun x H1 => tyV K T x H1 ∧ t σ H1 fun xs H2 => r x xs H2 Q
variable {o e : Expr} {es : List Expr} {to : TE} {t : TA} {name : Str} {apos cpos : Pos} {T id : String} {r : V → List V → Hp → VK → Prop}
theorem pe_bm0 (pa : PlainAttrs T) (slot : Slot T name id) (hty : typeOf (.builtin id) = pure (.type "method_descriptor")) (hm : MtR X id r) (ho : PE X o to)
    (hbase : attributeBase o name X.env (eval o X.env) = eval o X.env := by rfl) (hline : (apos.endLine == cpos.line) = true := by rfl) : PE X (.Call (.Attribute o name apos) [] [] cpos) (tBM0 X.K T r to) := by
  intro pins s σ H Q I h
  refine wpAny_Call_method0_late hbase hline (thn (ho pins s σ H _ I h) fun v s1 ⟨x, H1, I1, r1, ty, q1⟩ => ?_)
  obtain ⟨h1, h2⟩ := tyV_is I1 r1 ty
  exact ⟨T, id, pa, slot, hty, h1, h2, Calls.callWith_builtin rfl (PySem.evalArgs_none (hm pins s1 σ H1 x [] v [] Q I1 r1 .nil q1))⟩
theorem pe_bm (pa : PlainAttrs T) (slot : Slot T name id) (hty : typeOf (.builtin id) = pure (.type "method_descriptor")) (hm : MtR X id r) (ho : PE X o to) (ha : PA X (e :: es) t)
    (hbase : attributeBase o name X.env (eval o X.env) = eval o X.env := by rfl)
    (hfew : ((backTo cpos (starEach (e :: es) X.env)).all (fun x => !x.1) && (backToKw cpos (keywordEach [] X.env)).all (fun x => x.1.isSome)
      && decide ((e :: es).length + ([] : List Keyword).length + (if ([] : List Keyword).isEmpty then 0 else 1) < 30)) = true := by rfl)
    (hline : (apos.endLine == cpos.line) = true := by rfl) (hs : starEach (e :: es) X.env = (false, eval e X.env) :: starEach es X.env := by rfl) (hplain : (backTo cpos (starEach es X.env)).any (·.1) = false := by rfl) :
    PE X (.Call (.Attribute o name apos) (e :: es) [] cpos) (tBM X.K T r to t) := by
  intro pins s σ H Q I h
  refine wpAny_Call_method_late hbase hfew hline rfl (thn (ho pins s σ H _ I h) fun v s1 ⟨x, H1, I1, r1, ty, q1⟩ => ?_)
  obtain ⟨h1, h2⟩ := tyV_is I1 r1 ty
  refine ⟨T, id, pa, slot, hty, h1, h2, ?_⟩
  have hA := ha cpos pins s1 σ H1 _ I1 q1
  rw [hs] at hA ⊢
  refine Calls.callWith_builtin (by show (false || (backTo cpos (starEach es X.env)).any (·.1)) = false; rw [hplain] <;> rfl) (Calls.evalArgs_plain ?_)
  exact thn hA fun us s2 ⟨vs, H2, I2, r2, q2⟩ => hm pins s2 σ H2 x vs v us Q I2 r1 r2 q2
end
end L2
namespace L2
open PySem PySem.Spec PyProof.Rows
def MtM (X : Cx) (id : String) (r : V → List V → Hp → VK → Prop) : Prop :=
  ∀ (pins : List (Addr × Obj)) (s : Shared) (σ : St) (H : Hp) (x : V) (xs : List V) (v : Value) (us : List Value) (Q : VK), Inv X pins σ H s → RelV x v → Vals xs us → r x xs H Q →
    wpAny (model X.prog X.w) X.A (call (.builtin id) (v :: us)) (EP X pins σ Q) X.xe s
theorem Vals.one : ∀ {x : V} {us : List Value}, Vals [x] us → ∃ u, us = [u] ∧ RelV x u
  | _, _, .cons r .nil => ⟨_, rfl, r⟩
theorem Vals.zero : ∀ {us : List Value}, Vals [] us → us = []
  | _, .nil => rfl
theorem Vals.dropLast {xs : List V} {us : List Value} (h : Vals xs us) : Vals xs.dropLast us.dropLast := by
  induction h with
  | nil => exact .nil
  | cons r t ih =>
    cases t with
    | nil => exact .nil
    | cons q t' => exact .cons r ih
theorem Vals.eraseIdx : ∀ {xs : List V} {us : List Value} (i : Nat), Vals xs us → Vals (xs.eraseIdx i) (us.eraseIdx i)
  | _, _, _, .nil => .nil
  | _, _, 0, .cons _ t => t
  | _, _, i + 1, .cons r t => .cons r (Vals.eraseIdx i t)
theorem Vals.reverse {xs : List V} {us : List Value} (h : Vals xs us) : Vals xs.reverse us.reverse := by
  induction h with
  | nil => exact .nil
  | cons r t ih => rw [List.reverse_cons, List.reverse_cons]; exact Vals.append ih (.cons r .nil)
theorem erase_last {α : Type} (l : List α) : l.eraseIdx (l.length - 1) = l.dropLast := by
  induction l with
  | nil => rfl
  | cons a r ih =>
    cases r with
    | nil => rfl
    | cons b r =>
      have e : (a :: b :: r).length - 1 = ((b :: r).length - 1) + 1 := by
        have h1 : (a :: b :: r).length = r.length + 2 := rfl
        have h2 : (b :: r).length = r.length + 1 := rfl
        omega
      rw [e, List.eraseIdx_cons_succ, ih]
      all_goals rfl
section
variable {X : Cx} {pins : List (Addr × Obj)} {σ : St} {H : Hp} {s : Shared} {l b : Addr} {xs ys zs : List V}
theorem Inv.lset {its its' : List Value} {n : Nat} {f : Array Value → Array Value} {t' : Nat} (I : Inv X pins σ H s) (hH : H l = some (.lst xs))
    (e : s.heap.get? l = some { cls := .type "list", data := .seq its.toArray n }) (hf : f its.toArray = its'.toArray) (hv : Vals ys its') (hz : ys.length ≤ sizeLine) :
    Inv X pins σ (upd H l (.lst ys)) { s with heap := s.heap.update l (Obj.mapSeq f), toks := t' } := by
  have q := PySem.IsL.update e f
  rw [hf] at q
  refine I.write (x := l) (e := l) (by rw [hH]; exact trivial) (.inl rfl) (fun b' u hb hu => (Heap.get?_update_other s.heap (Obj.mapSeq f) (Ne.symm hb)).trans hu) ⟨_, q⟩ ?_
  exact ⟨hz, its', _, hv, q⟩
theorem Inv.lnew {its : List Value} {t' : Nat} (I : Inv X pins σ H s) (hv : Vals ys its) (hz : ys.length ≤ sizeLine) :
    Inv X pins σ (upd H s.heap.objs.size (.lst ys)) { s with heap := s.heap.push { cls := .type "list", data := .seq its.toArray }, toks := t' } :=
  I.laid (fun _ _ q => Heap.get?_push_of_some _ q) (Nat.le_refl _) ⟨hz, its, 0, hv, Heap.get?_push_size _ rfl⟩
theorem Inv.fresh (I : Inv X pins σ H s) : H s.heap.objs.size = none := I.hok.fresh (Nat.le_refl _)
theorem Inv.lstM (I : Inv X pins σ H s) (hH : H l = some (.lst xs)) : xs.length ≤ sizeLine ∧ ∃ (its : List Value) (n : Nat), Vals xs its ∧ xs.length = its.length ∧ s.heap.get? l = some { cls := .type "list", data := .seq its.toArray n } := by
  obtain ⟨z, its, n, r, e⟩ := I.hok l _ hH
  exact ⟨z, its, n, r, r.length, e⟩
end
section
variable {X : Cx}
def rAppend : V → List V → Hp → VK → Prop := fun x vs H Q => ∃ l xs y, x = .ref l ∧ vs = [y] ∧ H l = some (.lst xs) ∧ xs.length < sizeLine ∧ Q .non (upd H l (.lst (xs ++ [y])))
theorem mt_append : MtM X "list.append" rAppend := by
  intro pins s σ H x vs v us Q I rx rv h
  obtain ⟨l, xs, y, rfl, rfl, hH, hz, q⟩ := h
  cases rx
  obtain ⟨u, rfl, ru⟩ := rv.one
  obtain ⟨z, its, n, r, hl, e⟩ := I.lstM hH
  refine call_meets F.slot_list_append ⟨_, e, rfl⟩ F.entry_list_append (F.args_list_append_2 _ _) (PySem.list_append l its.toArray n u (by rw [List.size_toArray]; omega)) ⟨e, ?_⟩
  refine ⟨.non, _, I.lset (its' := its ++ [u]) hH e (by simp) (r.append (.cons ru .nil)) ?_, rfl, q⟩
  rw [List.length_append, List.length_singleton]
  omega
def rPop : V → List V → Hp → VK → Prop := fun x vs H Q => ∃ l xs y, x = .ref l ∧ vs = [] ∧ H l = some (.lst xs) ∧ xs[xs.length - 1]? = some y ∧ Q y (upd H l (.lst xs.dropLast))
theorem mt_pop : MtM X "list.pop" rPop := by
  intro pins s σ H x vs v us Q I rx rv h
  obtain ⟨l, xs, y, rfl, rfl, hH, hy, q⟩ := h
  cases rx
  have hus := rv.zero
  subst hus
  obtain ⟨z, its, n, r, hl, e⟩ := I.lstM hH
  obtain ⟨u, hu, ru⟩ := r.get hy
  have hy' : its.toArray[its.toArray.size - 1]? = some u := by
    show its.toArray[its.length - 1]? = some u
    rw [← Array.getElem?_toList, ← hl]
    exact hu
  refine call_meets F.slot_list_pop ⟨_, e, rfl⟩ F.entry_list_pop (F.args_list_pop_1 _) (MeetsSeq.list_pop_last l its.toArray n u hy' (by rw [List.size_toArray]; omega)) ⟨e, ?_⟩
  refine ⟨y, _, I.lset (its' := its.dropLast) hH e ?_ r.dropLast ?_, ru, q⟩
  · show its.toArray.eraseIdxIfInBounds (its.toArray.size - 1) = its.dropLast.toArray
    rw [List.size_toArray, List.eraseIdxIfInBounds_toArray, erase_last]
  · rw [List.length_dropLast]
    omega
def rCat : R2 := fun x y H Q => ∃ l b xs zs, x = .ref l ∧ y = .ref b ∧ H l = some (.lst xs) ∧ H b = some (.lst zs) ∧ xs.length + zs.length ≤ sizeLine ∧ ∀ p, H p = none → Q (.ref p) (upd H p (.lst (xs ++ zs)))
theorem op_cat : OpR X (binaryOp .Add) rCat := by
  intro pins s σ H x y v u Q I rx ry h
  obtain ⟨l, b, xs, zs, rfl, rfl, hH, hB, hz, q⟩ := h
  cases rx
  cases ry
  obtain ⟨z, its, n, r, hl, e⟩ := I.lstM hH
  obtain ⟨z2, its2, n2, r2, hl2, e2⟩ := I.lstM hB
  refine PySem.P.add_list e e2 ?_ (by rw [List.size_toArray, List.size_toArray]; omega)
  have ea : its.toArray ++ its2.toArray = (its ++ its2).toArray := by simp
  rw [ea]
  exact ⟨.ref _, _, I.lnew (t' := s.toks) (r.append r2) (by rw [List.length_append]; omega), rfl, q _ I.fresh⟩
end
section
variable {prog : Program} {w : World} {A : Around} {E : Value → Shared → Prop} {s : Shared}
end
section
variable {X : Cx}
end
end L2
namespace Att
open PySem PySem.W PySem.Calls PyProof.Rows
theorem ints_of_wellAll {P : Params} {h : Heap} : ∀ (ns : List Int) (vs : List Value), WellAll P h vs (ns.map WData.int) → IntsAre vs ns := by
  intro ns
  induction ns with
  | nil =>
    intro vs w
    rw [List.map_nil] at w
    cases w
    exact .nil
  | cons n ns ih =>
    intro vs w
    rw [List.map_cons] at w
    cases w with
    | cons a b =>
      cases a
      exact .cons _ _ (ih _ b)
theorem script_of {l : OpenLaw} {n : Nat} (hn : l.most = some n) {P : Params} {h : Heap} {args : List WData} {vals : List Value}
    (hpre : l.row.toRowW.claim.pre args = true) (hwl : WellAll P h vals args) :
    ∃ a vs ns, vals = [Value.ref a] ∧ args = [WData.list (ns.map WData.int)] ∧ h.get? a = some { cls := .type "list", data := .seq vs.toArray } ∧ IntsAre vs ns ∧ ns.length ≤ n := by
  have hsh : WShape.hasAll [] args [.list .int] = true := (pre_splitW hpre).1
  have hc : l.pre.holds [] { args := args } = true := (pre_splitW hpre).2
  obtain ⟨d, r, rfl, h1, h2⟩ := hasAllW_cons hsh
  obtain rfl := hasAllW_nil h2
  obtain ⟨xs, rfl, h3⟩ := hasW_list h1
  obtain ⟨ns, rfl⟩ := items_int h3
  have hlen : ns.length ≤ n := by
    unfold OpenLaw.pre at hc
    have h4 : (WTm.not (.lt (.lit (.int (n : Int))) (.len (.arg 0)))).holds [] { args := [.list (ns.map .int)] } = true := by
      have h4 := (holds_andW hc).1
      rw [hn] at h4
      exact h4
    have h5 := condW_of h4 (w_not (w_lt w_lit (w_len_list (w_arg rfl))))
    rw [List.length_map] at h5
    refine Nat.le_of_not_lt fun q => ?_
    have q' : (n : Int) < ((ns.length : Nat) : Int) := by omega
    first
      | (rw [decide_eq_true q'] at h5; exact absurd h5 (by decide))
      | (simp at h5; omega)
  cases hwl with
  | cons w1 w2 =>
    cases w2
    cases w1 with
    | list ho hall => exact ⟨_, _, ns, rfl, rfl, ho, ints_of_wellAll ns _ hall, hlen⟩
theorem post_true (l : OpenLaw) (args : List WData) : l.row.toRowW.claim.post args (.bool true) args = true :=
  postW_of (r := l.row.toRowW) (X := (true == true))
    (show WShape.has [] (.bool true) .bool = true by first | rfl | decide | simp [WShape.has, WShape.arms, WShape.armsAll])
    (show (WTm.eq .res (.lit (.bool true))).value [] { args := args, res := some (.bool true), after := args } = some (.bool (true == true)) from w_eq_bool (w_res rfl) w_lit) rfl
theorem attach_call {l : OpenLaw} {n : Nat} {q : Program} {loose : List Str} {XP : (Str → Option Value) → Heap → Prop} {YP : World → Heap → Prop} {d : DefRec}
    (hn : l.most = some n) (hdf : d.params.defaults = [])
    (call : ∀ (w : World) (s₀ s₁ : Shared) (mg mb : Str → Option Value) (fa : Addr) (o : Obj) (pm cd doc : Value) (a : Addr) (vs : List Value) (ns : List Int),
      Ground q loose [] XP w s₀ mg mb s₁.heap → YP w s₁.heap →
      s₁.heap.get? fa = some o → o.data = .func (docDef d.name d.params d.body d.scope pm cd doc) → s₁.heap.CodeRec cd d.name → mg d.name = some (.ref fa) →
      s₁.heap.get? a = some { cls := .type "list", data := .seq vs.toArray } → IntsAre vs ns → ns.length ≤ n → s₁.gens = #[] →
      codeAny (model l.prog w) callerA (.call (.ref fa) ⟨[.ref a], []⟩) (fun r s' => r = .ok (.ret (.bool true)) ∧ OldK s₁.heap s'.heap ∧ s'.os = s₁.os ∧ AllBare s'.gens) s₁) :
    WalkO q loose XP YP l.row.toRowW d [] (fun f vs => PySem.call f vs) := by
  intro w s₀ s₁ mg mb G Y fa o pm cd doc dV kV ho hd hcd hD hmg hg args vals as hpre hlay hrd hwl hlo
  obtain rfl : dV = .none := Dflts.none hD hdf
  obtain rfl : kV = .none := Dflts.noKw hD
  obtain ⟨a, vs, ns, rfl, rfl, hobj, hints, hlen⟩ := script_of hn hpre hwl
  refine enter_call (codeAny_mono (call w s₀ s₁ mg mb fa o pm cd doc a vs ns G Y ho (fd_plain hd) hcd hmg hobj hints hlen hg) fun r s' hq => ?_)
  obtain ⟨rfl, h2, h3, h4⟩ := hq
  exact ⟨.inl ⟨.bool true, .bool true, [], rfl, fun _ => rfl, .bool true, post_true l _, fun _ => ⟨List.Pairwise.nil, fun _ hm => (nomatch hm)⟩⟩, h2, h3, h4⟩
section
variable {prog : Program} {w : World} {A : Around} {E : Value → Shared → Prop} {s : Shared} {K : Frag}
end
end Att
namespace L2
open PySem PySem.Spec PyProof.Rows
theorem vals_ints : ∀ {vs : List Value} {ns : List Int}, IntsAre vs ns → Vals (ns.map V.int) vs
  | _, _, .nil => .nil
  | _, _, .cons n t h => .cons ⟨t, rfl⟩ (vals_ints h)
def Only (H : Hp) : Prop := ∀ b, H b = none ∨ ∃ o xs, H b = some (.frz o (.lst xs))
theorem law_call {P : Program} {w : World} {K : PySem.W.Frag} {mg mb : Str → Option Value} {CX : CXT} {k : Nat} {fa a : Addr} {fd : FuncData} {x : Str} {sp : Sp} {s₁ : Shared} {vs : List Value} {ns : List Int}
    (KX : K.In s₁.heap) (hns : s₁.heap.Ns mainGlobals mg) (hb : s₁.heap.Ns builtinsNs mb) (hbb : ∀ x : Str, x ≠ "__name__" → mb x = bootBuiltins x) (hlim : s₁.heap.NoLimit) (hg : s₁.gens = #[])
    (ha : s₁.heap.get? a = some { cls := .type "list", data := .seq vs.toArray }) (hi : IntsAre vs ns) (hl : ns.length ≤ sizeLine) (hr : Room k callerA)
    (F : ∀ base : Heap, K.In base → base.Ns mainGlobals mg → FnOk P w K mg base CX k fa fd [x] sp) (hbind : ∀ (s : Shared) (u : Value), BindsTo s fd ⟨[u], []⟩ [(x, u)])
    (hsp : ∀ H : Hp, Only H → SqL K H a (ns.map V.int) → sp [.ref a] H (fun v _ => v = .bl true) fun _ _ _ => False)
    (hCX : ∀ H e s', CX [] H s₁ (fun _ _ _ => False) e s' → False) :
    codeAny (model P w) callerA (.call (.ref fa) ⟨[.ref a], []⟩) (fun r s' => r = .ok (.ret (.bool true)) ∧ OldK s₁.heap s'.heap ∧ s'.os = s₁.os ∧ AllBare s'.gens) s₁ := by
  have rv := vals_ints hi
  have lenV := hi.length
  have core : ∀ H : Hp, Only H → SqL K H a (ns.map V.int) → HOk P w H s₁.heap → (∀ b, H b ≠ none → b = a) → (H a ≠ none → K.lookup a = none) →
      codeAny (model P w) callerA (.call (.ref fa) ⟨[.ref a], []⟩) (fun r s' => r = .ok (.ret (.bool true)) ∧ OldK s₁.heap s'.heap ∧ s'.os = s₁.os ∧ AllBare s'.gens) s₁ := by
    intro H hO hS hok hA hK
    have base_of : ∀ {b : Addr} {o : Obj}, s₁.heap.get? b = some o → H b = none → (hidT s₁.heap H).get? b = some o := fun e n => hidT_get e n
    have noA : ∀ {b : Addr} {o : Obj} {es : Array DictEntry} {ep : Nat}, s₁.heap.get? b = some o → o.data = .dict es ep → H b = none := fun {b o es ep} e d => by
      cases q : H b with
      | none => rfl
      | some u =>
        have e' : b = a := hA b (by rw [q]; simp)
        subst e'
        rw [ha] at e; cases e
        have d' : Data.seq vs.toArray _ = Data.dict es ep := d
        cases d'
    have nsK : ∀ {b : Addr} {m : Str → Option Value}, s₁.heap.Ns b m → (hidT s₁.heap H).Ns b m := fun {b m} ⟨o, es, ep, e, d, r⟩ => ⟨o, es, ep, base_of e (noA e d), d, r⟩
    have hKb : K.In (hidT s₁.heap H) := fun b o e => base_of (KX b o e) (by
      cases q : H b with
      | none => rfl
      | some u =>
        have e' : b = a := hA b (by rw [q]; simp)
        subst e'
        rw [hK (by rw [q]; simp)] at e; cases e)
    have hM : Mod K mg (hidT s₁.heap H) := ⟨hKb, nsK hns, ⟨mb, nsK hb, hbb⟩, let ⟨mc, h1, h2⟩ := hlim; ⟨mc, nsK h1, h2⟩⟩
    have e0 : Env0 P w K mg (hidT s₁.heap H) callerA [] s₁ H := ⟨rfl, hM, fun b o e => of_hidT e, Nat.le_of_eq (hidT_size _ _), trivial, fun b hb => absurd (show b ∈ ([] : List Addr) from hb) (by simp), hok, .of_eq hg⟩
    refine codeAny_mono ((F _ hKb (nsK hns)).run callerA [] s₁ H ⟨[.ref a], []⟩ [.ref a] [.ref a] _ _ hr e0 (hbind s₁ (.ref a)) (.cons rfl .nil) (hsp H hO hS)) fun r s' h => ?_
    cases r with
    | error e => exact (hCX H e s' h).elim
    | ok fl =>
      cases fl with
      | next => exact False.elim h
      | brk => exact False.elim h
      | cont => exact False.elim h
      | ret u =>
        obtain ⟨v, H', os, bare, un, hok', r', q⟩ := h
        have q' : v = .bl true := q
        subst q'
        obtain rfl : u = Value.bool true := r'
        refine ⟨rfl, OldK.of_keep fun b o e => ?_, os, bare⟩
        cases q : H b with
        | none => exact un.keep b o e q (by intro z; exact absurd (show b ∈ ([] : List Addr) from z) (by simp)) (by simp)
        | some u =>
          rcases hO b with z | ⟨ob, xs, z⟩
          · rw [q] at z; cases z
          · have z2 := un.frzs b ob _ z
            obtain ⟨e1, _⟩ := hok b _ z
            obtain ⟨e2, _⟩ := hok' b _ z2
            rw [e] at e1; cases e1
            exact e2
  cases hk : K.lookup a with
  | some o =>
    have e := KX a o hk
    rw [ha] at e
    cases e
    refine core (fun _ => none) (fun _ => .inl rfl) (.inr ⟨_, vs.toArray, _, hk, rfl, rfl, rfl, by rw [List.size_toArray, lenV]; exact hl, by simpa using rv⟩) (fun b u z => by have z' : (none : Option HO) = some u := z; cases z') (fun b z => absurd rfl z) fun z => absurd rfl z
  | none =>
    refine core (fun b => if b = a then some (.frz { cls := .type "list", data := .seq vs.toArray } (.lst (ns.map V.int))) else none) (fun b => ?_) (.inl (.inr ⟨{ cls := .type "list", data := .seq vs.toArray }, if_pos rfl⟩)) (fun b u z => ?_) (fun b z => ?_) fun _ => hk
    · by_cases hb : b = a
      · exact .inr ⟨_, _, if_pos hb⟩
      · exact .inl (if_neg hb)
    · by_cases hb : b = a
      · have z' := (if_pos hb).symm.trans z
        cases z'
        subst hb
        exact ⟨ha, by rw [List.length_map]; exact hl, vs, _, rv, ha⟩
      · have z' := (if_neg hb).symm.trans z
        cases z'
    · by_cases hb : b = a
      · exact hb
      · exact absurd (if_neg hb) z
end L2
namespace L2
open PySem PySem.Spec PyProof.Rows
theorem walk_of {l : PySem.W.OpenLaw} {n k : Nat} {q : Program} {loose : List Str} {XP : (Str → Option Value) → Heap → Prop} {YP : World → Heap → Prop} {d : DefRec} {K : Params → PySem.W.Frag} {CX : World → CXT} {sp : World → Sp} {x : Str}
    (hn : l.most = some n) (hn2 : n ≤ sizeLine) (hdf : d.params.defaults = []) (hr : Room k callerA)
    (hY : ∀ (w : World) (h : Heap), YP w h → (K w.params).In h)
    (F : ∀ (w : World) (mg : Str → Option Value) (fa : Addr) (h : Heap), (K w.params).In h → h.Ns mainGlobals mg → mg d.name = some (.ref fa) →
      ∃ fd : FuncData, (∀ (s : Shared) (u : Value), BindsTo s fd ⟨[u], []⟩ [(x, u)]) ∧
        ∀ base : Heap, (K w.params).In base → base.Ns mainGlobals mg → FnOk l.prog w (K w.params) mg base (CX w) k fa fd [x] (sp w))
    (hsp : ∀ (w : World) (H : Hp) (a : Addr) (ns : List Int), ns.length ≤ n → Only H → SqL (K w.params) H a (ns.map V.int) → sp w [.ref a] H (fun v _ => v = .bl true) fun _ _ _ => False)
    (hCX : ∀ (w : World) (H : Hp) (s : Shared) (e : Value) (s' : Shared), CX w [] H s (fun _ _ _ => False) e s' → False) :
    PySem.W.WalkO q loose XP YP l.row.toRowW d [] (fun f vs => PySem.call f vs) := by
  refine Att.attach_call hn hdf fun w s₀ s₁ mg mb fa o pm cd doc a vs ns G Y ho hd hcd hmg hobj hints hlen hg => ?_
  have KX := hY w _ Y
  obtain ⟨fd, hb, hF⟩ := F w mg fa _ KX G.T.g hmg
  exact law_call KX G.T.g G.T.b G.T.builtins G.T.nolimit hg hobj hints (Nat.le_trans hlen hn2) hr hF hb (fun H hO hS => hsp w H a ns hlen hO hS) fun H e s' => hCX w H s₁ e s'
end L2
namespace L2
open PySem PySem.Spec PyProof.Rows
def defArgs (s : Stmt) : Arguments := match s with
  | .FunctionDef _ a _ _ _ _ _ _ _ _ => a
  | _ => { posonlyargs := [], args := [], vararg := none, kwonlyargs := [], kw_defaults := [], kwarg := none, defaults := [] }
def defBody (s : Stmt) : List Stmt := match s with
  | .FunctionDef _ _ b _ _ _ _ _ _ _ => b
  | _ => []
def defScope (s : Stmt) : Scope := match s with
  | .FunctionDef _ _ _ _ _ _ sc _ _ _ => sc
  | _ => { kind := .function, names := [], isGenerator := false, isCoroutine := false }
abbrev CX0 : CXT := fun _ _ _ _ _ _ => False
abbrev E0 : XK := fun _ _ _ => False
theorem pass0 {X : Cx} : Passes CX0 X E0 := fun _ _ _ _ _ _ _ h => h.elim
structure Fun (K : PySem.W.Frag) (x qual : Str) (st : Stmt) (f : Addr) (fd : FuncData) : Prop where
  ex : ∃ (oc : Value) (od : Option Addr) (kV doc pm : Value) (an : Option Addr) (cdv ct : Value) (osl : Array (Option Value)),
    fd = PySem.W.fnOf x qual (defArgs st) (defBody st) (defScope st) .none kV doc pm an cdv ct ∧ K.lookup f = some ⟨oc, od, .func fd, osl⟩ ∧ PySem.W.codeIn K cdv qual = true
  kp : PySem.W.keepIn K (.ref f) = true
section
variable {P : Program} {w : World} {K : PySem.W.Frag} {mg : Str → Option Value} {base : Heap}
theorem Fun.ok {x qual : Str} {st : Stmt} {f : Addr} {fd : FuncData} {N ps : List Str} {k : Nat} {sp : Sp} (F : Fun K x qual st f fd) (S : FnScope N ps (defScope st)) (len : ∀ vs H Q E, sp vs H Q E → vs.length = ps.length)
    (hbody : ∀ (cdv : Value) (A : Around) (outer : List Env) (s : Shared) (H : Hp) (vs : List V) (Q : VK) (E : XK), Room k (A.deeper (envOfC qual (defScope st) s.heap.objs.size f cdv)) → sp vs H Q E →
      ∃ t, PSs (cxOf CX0 P w K mg base N qual (defScope st) f cdv A outer s H E).nox (defBody st) t ∧ t { nx := fun _ H' => Q .non H', rt := Q } (start N vs) H) : FnOk P w K mg base CX0 (k + 1) f fd ps sp := by
  obtain ⟨oc, od, kV, doc, pm, an, cdv, ct, osl, rfl, lk, hcd⟩ := F.ex
  refine fn_of lk hcd S len fun A outer s H vs Q E hr hsp => ?_
  obtain ⟨t, h, q⟩ := hbody cdv A outer s H vs Q E hr hsp
  exact ⟨t, h.nox, q⟩
theorem Fun.binds {x qual : Str} {st : Stmt} {f : Addr} {fd : FuncData} {ps : List Str} (F : Fun K x qual st f fd)
    (h : ∀ (kV doc pm : Value) (an : Option Addr) (cdv ct : Value) (us : List Value), us.length = ps.length → bindArgs (PySem.W.fnOf x qual (defArgs st) (defBody st) (defScope st) .none kV doc pm an cdv ct) ⟨us, []⟩ = pure (ps.zip us)) : Binds K fd ps [] := by
  obtain ⟨oc, od, kV, doc, pm, an, cdv, ct, osl, rfl, lk, hcd⟩ := F.ex
  exact .all (h kV doc pm an cdv ct)
theorem fun_mk {x qual : Str} {st : Stmt} {f : Addr} {oc : Value} {od an : Option Addr} {osl : Array (Option Value)} {kV doc pm cdv ct : Value} (l : K.lookup f = some ⟨oc, od, .func (PySem.W.fnOf x qual (defArgs st) (defBody st) (defScope st) .none kV doc pm an cdv ct), osl⟩)
    (c : PySem.W.codeIn K cdv qual = true) (k : PySem.W.keepIn K (.ref f) = true) : Fun K x qual st f (PySem.W.fnOf x qual (defArgs st) (defBody st) (defScope st) .none kV doc pm an cdv ct) := ⟨⟨oc, od, kV, doc, pm, an, cdv, ct, osl, rfl, l, c⟩, k⟩
end
theorem hu_of {A : Around} {k : Nat} (hr : Room k A) : A.units + 1 < cLine := Nat.lt_of_le_of_lt (Nat.add_le_add_left (by decide : 1 ≤ 64) _) hr.units
section
variable {X : Cx}
theorem pv (i : Nat) {x : Str} {pos : Pos} (hN : X.N[i]? = some x := by rfl) (hv : Vis X.env.scope x := by first | exact Or.inl rfl | exact Or.inr (Or.inl rfl) | exact Or.inr (Or.inr rfl)) (hd : (x == ("__debug__" : Str)) = false := by decide)
    (hcd : (x == ("__classdict__" : Str)) = false := by decide) : PE X (.Name x pos) (tVar i) := pe_var hN hv hd hcd
end
theorem iteF {A B : Prop} (h : B) : if false = true then A else B := by
  rw [if_neg Bool.false_ne_true]
  exact h
theorem ite2 {c A B : Prop} [Decidable c] (h1 : c → A) (h2 : ¬ c → B) : if c then A else B := by
  by_cases h : c
  · rw [if_pos h]
    exact h1 h
  · rw [if_neg h]
    exact h2 h
def Same (H H' : Hp) : Prop := ∀ b o, H b = some o → H' b = some o
theorem Same.refl (H : Hp) : Same H H := fun _ _ h => h
theorem Same.trans {H H1 H2 : Hp} (a : Same H H1) (b : Same H1 H2) : Same H H2 := fun c o h => b c o (a c o h)
theorem Same.free {H H' : Hp} (e : Same H H') {l : Addr} (h : H' l = Option.none) : H l = Option.none := by
  cases q : H l with
  | none => rfl
  | some o =>
    rw [e l o q] at h
    cases h
theorem Same.seq {K : PySem.W.Frag} {H H' : Hp} {a : Addr} {xs : List V} (e : Same H H') (h : SqL K H a xs) : SqL K H' a xs := by
  rcases h with (h | ⟨o, h⟩) | h
  · exact .inl (.inl (e _ _ h))
  · exact .inl (.inr ⟨o, e _ _ h⟩)
  · exact .inr h
end L2
namespace L2
open PySem PySem.Spec PyProof.Rows
section
variable {κ : Type} [DecidableEq κ]
def valV (kvs : List (κ × V)) (k : κ) : Option V := (kvs.find? fun kv => decide (kv.1 = k)).map (·.2)
def putK (kvs : List (κ × V)) (k : κ) (v : V) : List (κ × V) :=
  if (kvs.any fun kv => decide (kv.1 = k)) = true then kvs.map (fun kv => if kv.1 = k then (kv.1, v) else kv) else kvs ++ [(k, v)]
def dropK (kvs : List (κ × V)) (k : κ) : List (κ × V) := kvs.filter fun kv => decide (kv.1 ≠ k)
theorem valV_nil {k : κ} : valV ([] : List (κ × V)) k = none := rfl
theorem valV_pos {p : κ × V} {r : List (κ × V)} {k : κ} (e : p.1 = k) : valV (p :: r) k = some p.2 := by simp [valV, List.find?_cons, e]
theorem valV_neg {p : κ × V} {r : List (κ × V)} {k : κ} (e : ¬ p.1 = k) : valV (p :: r) k = valV r k := by simp [valV, List.find?_cons, e]
theorem valV_any (k : κ) : ∀ kvs : List (κ × V), (kvs.any fun kv => decide (kv.1 = k)) = (valV kvs k).isSome
  | [] => rfl
  | p :: r => by
    rw [List.any_cons]
    by_cases e : p.1 = k
    · simp only [valV_pos e, decide_eq_true e, Bool.true_or, Option.isSome_some]
    · rw [valV_neg e, decide_eq_false e, Bool.false_or]; exact valV_any k r
theorem length_putK (kvs : List (κ × V)) (k : κ) (v : V) : (putK kvs k v).length ≤ kvs.length + 1 := by
  unfold putK
  split
  · rw [List.length_map]; omega
  · rw [List.length_append, List.length_cons, List.length_nil]; omega
theorem putK_new {kvs : List (κ × V)} {k : κ} (v : V) (h : valV kvs k = none) : putK kvs k v = kvs ++ [(k, v)] := by
  unfold putK
  rw [valV_any, h]
  exact if_neg (by decide)
theorem RelO.isSome_eq {o : Option V} {u : Option Value} (r : RelO o u) : o.isSome = u.isSome := by
  cases o with
  | none => cases u with
    | none => rfl
    | some _ => exact (show False from r).elim
  | some _ => cases u with
    | none => exact (show False from r).elim
    | some _ => rfl
theorem RelO.getD {o : Option V} {u : Option Value} {d : V} {d' : Value} (r : RelO o u) (rd : RelV d d') : RelV (o.getD d) (u.getD d') := by
  cases o with
  | none => cases u with
    | none => exact rd
    | some _ => exact (show False from r).elim
  | some _ => cases u with
    | none => exact (show False from r).elim
    | some _ => exact r
theorem KV.val {kvs : List (κ × V)} {vs : List (κ × Value)} (r : KV kvs vs) (k : κ) : RelO (valV kvs k) (valueAt vs k) := by
  unfold KV at r
  induction r with
  | nil => exact True.intro
  | @cons p q ps qs h t ih =>
    obtain ⟨h1, h2⟩ := h
    by_cases e : p.1 = k
    · have e' : q.1 = k := h1.symm.trans e
      have b : valueAt (q :: qs) k = some q.2 := by simp [valueAt, List.find?_cons, e']
      rw [valV_pos e, b]; exact h2
    · have e' : ¬ q.1 = k := fun z => e (h1.trans z)
      have b : valueAt (q :: qs) k = valueAt qs k := by simp [valueAt, List.find?_cons, e']
      rw [valV_neg e, b]; exact ih
theorem KV.any {kvs : List (κ × V)} {vs : List (κ × Value)} (r : KV kvs vs) (k : κ) : (kvs.any fun kv => decide (kv.1 = k)) = vs.any fun kv => decide (kv.1 = k) := by
  unfold KV at r
  induction r with
  | nil => rfl
  | cons h t ih => rw [List.any_cons, List.any_cons, ih, h.1]
theorem KV.repl {kvs : List (κ × V)} {vs : List (κ × Value)} (r : KV kvs vs) (k : κ) {y : V} {u : Value} (ry : RelV y u) :
    KV (kvs.map fun kv => if kv.1 = k then (kv.1, y) else kv) (vs.map fun kv => if kv.1 = k then (kv.1, u) else kv) := by
  unfold KV at r ⊢
  induction r with
  | nil => exact .nil
  | @cons p q ps qs h t ih =>
    rw [List.map_cons, List.map_cons]
    refine .cons ?_ ih
    obtain ⟨h1, h2⟩ := h
    by_cases e : p.1 = k
    · rw [if_pos e, if_pos (h1.symm.trans e)]; exact ⟨h1, ry⟩
    · rw [if_neg e, if_neg (fun z => e (h1.trans z))]; exact ⟨h1, h2⟩
theorem KV.put {kvs : List (κ × V)} {vs : List (κ × Value)} (r : KV kvs vs) (k : κ) {y : V} {u : Value} (ry : RelV y u) : KV (putK kvs k y) (stored vs k u) := by
  unfold putK stored
  rw [r.any k]
  by_cases e : (vs.any fun kv => decide (kv.1 = k)) = true
  · rw [if_pos e, if_pos e]; exact r.repl k ry
  · rw [if_neg e, if_neg e]; exact Paired.snoc r ⟨rfl, ry⟩
theorem KV.drop {kvs : List (κ × V)} {vs : List (κ × Value)} (r : KV kvs vs) (k : κ) : KV (dropK kvs k) (without vs k) := by
  unfold KV at r ⊢
  unfold dropK without
  induction r with
  | nil => exact .nil
  | @cons p q ps qs h t ih =>
    obtain ⟨h1, h2⟩ := h
    rw [List.filter_cons, List.filter_cons]
    by_cases e : p.1 = k
    · have a : ¬ decide (p.1 ≠ k) = true := by simp [e]
      have b : ¬ decide (q.1 ≠ k) = true := by simp [h1.symm.trans e]
      rw [if_neg a, if_neg b]; exact ih
    · have e' : ¬ q.1 = k := fun z => e (h1.trans z)
      have a : decide (p.1 ≠ k) = true := by simp [e]
      have b : decide (q.1 ≠ k) = true := by simp [e']
      rw [if_pos a, if_pos b]; exact .cons ⟨h1, h2⟩ ih
theorem KV.keys {kvs : List (κ × V)} {vs : List (κ × Value)} (r : KV kvs vs) : kvs.map (·.1) = vs.map (·.1) := by
  unfold KV at r
  induction r with
  | nil => rfl
  | cons h t ih => rw [List.map_cons, List.map_cons, ih, h.1]
theorem KV.length {kvs : List (κ × V)} {vs : List (κ × Value)} (r : KV kvs vs) : kvs.length = vs.length := Paired.length r
end
theorem kV_is {P : Program} {w : World} {k : Key} {u : Value} (r : RelV (kV k) u) : (mixKind P w).is k u = true := by
  cases k with
  | inl i => obtain ⟨t, e⟩ := (show ∃ t, u = Value.int i t from r); subst e; exact mixKind_int P w i t
  | inr x => obtain ⟨t, e⟩ := (show ∃ t, u = Value.str x t from r); subst e; exact mixKind_str P w x t
theorem items_are {P : Program} {w : World} : ∀ {ks : List Key} {us : List Value}, Vals (ks.map kV) us → ItemsAre (mixKind P w) ks us
  | [], _, r => by rw [List.map_nil] at r; cases r; exact .nil
  | k :: ks, _, r => by
    rw [List.map_cons] at r
    cases r with
    | cons h t => exact .cons (kV_is h) (items_are t)
abbrev KT (H : Hp) : List (List Key × V) → List (List Key × Addr × Value) → Prop := Paired fun p q => p.1 = q.1 ∧ H q.2.1 = some (.tup (p.1.map kV)) ∧ RelV p.2 q.2.2
theorem KT.val {H : Hp} {kvs : List (List Key × V)} {xs : List (List Key × Addr × Value)} (r : KT H kvs xs) (k : List Key) : RelO (valV kvs k) ((atKey xs k).map (·.2)) := by
  induction r with
  | nil => exact True.intro
  | @cons p q ps qs h t ih =>
    obtain ⟨h1, _, h2⟩ := h
    by_cases e : p.1 = k
    · have e' : q.1 = k := h1.symm.trans e
      have b : atKey (q :: qs) k = some q.2 := by simp [atKey, List.find?_cons, e']
      rw [valV_pos e, b]; exact h2
    · have e' : ¬ q.1 = k := fun z => e (h1.trans z)
      have b : atKey (q :: qs) k = atKey qs k := by simp [atKey, List.find?_cons, e']
      rw [valV_neg e, b]; exact ih
theorem KT.repl {H : Hp} {kvs : List (List Key × V)} {xs : List (List Key × Addr × Value)} (r : KT H kvs xs) (k : List Key) {y : V} {u : Value} (ry : RelV y u) :
    KT H (kvs.map fun kv => if kv.1 = k then (kv.1, y) else kv) (xs.map (putAt k u)) := by
  induction r with
  | nil => exact .nil
  | @cons p q ps qs h t ih =>
    rw [List.map_cons, List.map_cons]
    refine .cons ?_ ih
    obtain ⟨h1, h2, h3⟩ := h
    unfold putAt
    by_cases e : p.1 = k
    · rw [if_pos e, if_pos (h1.symm.trans e)]; exact ⟨h1, h2, ry⟩
    · rw [if_neg e, if_neg (fun z => e (h1.trans z))]; exact ⟨h1, h2, h3⟩
theorem KT.put {H : Hp} {kvs : List (List Key × V)} {xs : List (List Key × Addr × Value)} (r : KT H kvs xs) (k : List Key) {b : Addr} {y : V} {u : Value} (hb : H b = some (.tup (k.map kV))) (ry : RelV y u) :
    KT H (putK kvs k y) (storedH xs k b u) := by
  have e : (kvs.any fun kv => decide (kv.1 = k)) = (atKey xs k).isSome := by
    rw [valV_any, (r.val k).isSome_eq, Option.isSome_map]
  unfold putK storedH
  rw [e]
  by_cases q : (atKey xs k).isSome = true
  · rw [if_pos q, if_pos q]; exact r.repl k ry
  · rw [if_neg q, if_neg q]; exact Paired.snoc r ⟨rfl, hb, ry⟩
theorem KT.keeps {H H' : Hp} {kvs : List (List Key × V)} {xs : List (List Key × Addr × Value)} (r : KT H kvs xs) (ht : ∀ b ys, H b = some (.tup ys) → H' b = some (.tup ys)) : KT H' kvs xs :=
  Paired.mapP r fun _ _ z => ⟨z.1, ht _ _ z.2.1, z.2.2⟩
section
variable {P : Program} {w : World} {H : Hp} {h : Heap} {a : Addr}
theorem rd_of {u : HO} (ok : HOk P w H h) (e : Rd H a u) : ObjOk P w H h a u := e.ok ok
theorem dk_rd {kvs : List (Key × V)} (ok : HOk P w H h) (e : Rd H a (.dK kvs)) : kvs.length ≤ sizeLine ∧ (a == sysModules) = false ∧ ∃ vs, KV kvs vs ∧ h.DictOf (mixKind P w) a vs :=
  show ObjOk P w H h a (.dK kvs) from rd_of ok e
theorem dk_of {kvs : List (Key × V)} (ok : HOk P w H h) (e : H a = some (.dK kvs)) : kvs.length ≤ sizeLine ∧ (a == sysModules) = false ∧ ∃ vs, KV kvs vs ∧ h.DictOf (mixKind P w) a vs := dk_rd ok (.inl e)
theorem key_of {ks : List Key} (ok : HOk P w H h) (e : H a = some (.tup (ks.map kV))) : (tupleKind (mixKind P w)).is h ks a := by
  obtain ⟨_, its, r, o, h1, h2, n, h3⟩ := (show ObjOk P w H h a (.tup (ks.map kV)) from ok a _ e)
  exact ⟨o, its.toArray, n, h1, h2, h3, by simpa using items_are r⟩
theorem dt_rd {kvs : List (List Key × V)} (ok : HOk P w H h) (e : Rd H a (.dT kvs)) : kvs.length ≤ sizeLine ∧ (a == sysModules) = false ∧
    ∃ xs, KT H kvs xs ∧ h.DictOfH (tupleKind (mixKind P w)) a xs := by
  obtain ⟨z, y, xs, r, o, es, ep, h1, h2, h3, h4, h5⟩ := (show ObjOk P w H h a (.dT kvs) from rd_of ok e)
  refine ⟨z, y, xs, r, o, es, ep, h1, h2, h3, h4, fun x hx => ?_, h5⟩
  have all : ∀ {l : List (List Key × V)} {m : List (List Key × Addr × Value)}, KT H l m → ∀ x ∈ m, (tupleKind (mixKind P w)).is h x.1 x.2.1 := by
    intro l m q
    induction q with
    | nil => intro x hx; exact nomatch hx
    | @cons p q ps qs hq t ih =>
      intro x hx
      rcases List.mem_cons.mp hx with e | hx
      · subst e
        exact key_of ok (by rw [← hq.1]; exact hq.2.1)
      · exact ih x hx
  exact all r x hx
theorem dt_of {kvs : List (List Key × V)} (ok : HOk P w H h) (e : H a = some (.dT kvs)) : kvs.length ≤ sizeLine ∧ (a == sysModules) = false ∧
    ∃ xs, KT H kvs xs ∧ h.DictOfH (tupleKind (mixKind P w)) a xs := dt_rd ok (.inl e)
end
def DGet (H : Hp) (a : Addr) (y : V) (r : Option V) : Prop :=
  (∃ kvs k, Rd H a (.dK kvs) ∧ y = kV k ∧ r = valV kvs k) ∨ ∃ kvs k b, Rd H a (.dT kvs) ∧ y = .ref b ∧ H b = some (.tup (k.map kV)) ∧ r = valV kvs k
def DPut (H : Hp) (a : Addr) (y v : V) (H' : Hp) : Prop :=
  (∃ kvs k, H a = some (.dK kvs) ∧ y = kV k ∧ kvs.length < sizeLine ∧ H' = upd H a (.dK (putK kvs k v))) ∨
  ∃ kvs k b, H a = some (.dT kvs) ∧ y = .ref b ∧ H b = some (.tup (k.map kV)) ∧ kvs.length < sizeLine ∧ H' = upd H a (.dT (putK kvs k v))
theorem DGet.k {H : Hp} {a : Addr} {kvs : List (Key × V)} {k : Key} (e : H a = some (.dK kvs)) : DGet H a (kV k) (valV kvs k) := .inl ⟨kvs, k, .inl e, rfl, rfl⟩
theorem DGet.t {H : Hp} {a b : Addr} {kvs : List (List Key × V)} {k : List Key} (e : H a = some (.dT kvs)) (eb : H b = some (.tup (k.map kV))) : DGet H a (.ref b) (valV kvs k) := .inr ⟨kvs, k, b, .inl e, rfl, eb, rfl⟩
theorem DPut.k {H : Hp} {a : Addr} {kvs : List (Key × V)} {k : Key} {v : V} (e : H a = some (.dK kvs)) (hl : kvs.length < sizeLine) : DPut H a (kV k) v (upd H a (.dK (putK kvs k v))) := .inl ⟨kvs, k, e, rfl, hl, rfl⟩
theorem DPut.t {H : Hp} {a b : Addr} {kvs : List (List Key × V)} {k : List Key} {v : V} (e : H a = some (.dT kvs)) (eb : H b = some (.tup (k.map kV))) (hl : kvs.length < sizeLine) :
    DPut H a (.ref b) v (upd H a (.dT (putK kvs k v))) := .inr ⟨kvs, k, b, e, rfl, eb, hl, rfl⟩
section
variable {X : Cx} {pins : List (Addr × Obj)} {σ : St} {H : Hp} {s : Shared} {a : Addr} {y v : V} {u r : Value} {o : Option V} {A : Around} {E : Value → Shared → Prop}
theorem Inv.big (I : Inv X pins σ H s) : sysModules < s.heap.objs.size := by
  have h : mainGlobals < s.heap.objs.size := (I.mod.glob.keeps I.bk).lt
  exact Nat.lt_trans (by decide) h
theorem d_getItem {Q : Value → Shared → Prop} (hu : A.units + 1 < cLine) (I : Inv X pins σ H s) (g : DGet H a y (some v)) (ry : RelV y u) (h : ∀ w' s', Inv X pins σ H s' → RelV v w' → Q w' s') :
    wpAny (model X.prog X.w) A (getItem (.ref a) u) Q E s := by
  rcases g with ⟨kvs, k, e, ey, l⟩ | ⟨kvs, k, b, e, ey, eb, l⟩
  · subst ey
    obtain ⟨z, hd, vs, rel, dd⟩ := dk_rd I.hok e
    obtain ⟨w', hw, rw'⟩ := RelO.some_of (v := v) (o := valueAt vs k) (by rw [l]; exact rel.val k)
    exact wpAny_getItem_of (kV_is ry) dd.mapOf hw (h w' _ (I.tok _) rw')
  · subst ey
    cases (show u = Value.ref b from ry)
    obtain ⟨z, hd, xs, rel, dd⟩ := dt_rd I.hok e
    obtain ⟨w', hw, rw'⟩ := RelO.some_of (v := v) (o := (atKey xs k).map (·.2)) (by rw [l]; exact rel.val k)
    obtain ⟨p, hp, hp2⟩ := Option.map_eq_some_iff.mp hw
    refine wpAny_getItem_heap (tupleKind_room_in1 hu) (key_of I.hok eb) dd hp ?_
    rw [hp2]
    exact h w' _ (I.tok _) rw'
theorem d_write {h' : Heap} {t' : Nat} {ob : HO} (I : Inv X pins σ H s) (mu : Mut (H a)) (hs : Heap.SameBut a s.heap h') (he : ∃ q, h'.get? a = some q) (new : ObjOk X.prog X.w (upd H a ob) h' a ob) :
    Inv X pins σ (upd H a ob) { s with heap := h', toks := t' } :=
  I.write (x := a) (e := a) mu (.inl rfl) (fun b q hb z => (hs.2 b hb).trans z) he new
theorem dk_new {P : Program} {w : World} {H' : Hp} {h' : Heap} {kvs : List (Key × V)} {vs : List (Key × Value)} (z : kvs.length ≤ sizeLine) (hd : (a == sysModules) = false) (rel : KV kvs vs) (dd : h'.DictOf (mixKind P w) a vs) :
    ObjOk P w H' h' a (.dK kvs) := ⟨z, hd, vs, rel, dd⟩
theorem d_setItem {H' : Hp} {Q : Unit → Shared → Prop} (hu : A.units + 1 < cLine) (I : Inv X pins σ H s) (g : DPut H a y v H') (ry : RelV y u) (rv : RelV v r) (h : ∀ s', Inv X pins σ H' s' → Q () s') :
    wpAny (model X.prog X.w) A (setItem (.ref a) u r) Q E s := by
  rcases g with ⟨kvs, k, e, ey, l, eH⟩ | ⟨kvs, k, b, e, ey, eb, l, eH⟩
  · subst ey eH
    obtain ⟨z, hd, vs, rel, dd⟩ := dk_of I.hok e
    have hz : vs.length ≤ sizeLine := by rw [← rel.length]; exact z
    have hl : (putK kvs k v).length ≤ sizeLine := by have := length_putK kvs k v; omega
    refine wpAny_setItem_pairs (hsz := hz) (kV_is ry) dd fun h' dd' hs => h _ ?_
    have he : ∃ q, h'.get? a = some q := let ⟨q, _, _, hq, _⟩ := dd'; ⟨q, hq⟩
    exact d_write I (by rw [e]; exact True.intro) hs he (dk_new hl hd (rel.put k rv) dd')
  · subst ey eH
    cases (show u = Value.ref b from ry)
    obtain ⟨z, hd, xs, rel, dd⟩ := dt_of I.hok e
    have hz : xs.length ≤ sizeLine := by rw [← Paired.length rel]; exact z
    have hl : (putK kvs k v).length ≤ sizeLine := by have := length_putK kvs k v; omega
    refine wpAny_setItem_heap (hsz := hz) (tupleKind_room_in1 hu) (key_of I.hok eb) dd fun h' dd' hs => h _ ?_
    obtain ⟨q, es, ep, hq, h2, h3, h4, _, h5⟩ := dd'
    refine d_write I (by rw [e]; exact True.intro) hs ⟨q, hq⟩ ⟨hl, hd, _, (rel.put k eb rv).keeps fun c ys ec => ?_, q, es, ep, hq, h2, h3, h4, h5⟩
    rw [upd_ne (ne_of ec e (fun z => nomatch z))]
    exact ec
end
section
variable {X : Cx} {pins : List (Addr × Obj)} {σ : St} {H : Hp} {s : Shared} {a : Addr} {kvs : List (Key × V)} {k : Key} {u : Value} {A : Around} {E : Value → Shared → Prop}
end
def NoSl (i : Expr) : Prop := ∀ ov iv, subscripted i false ov iv = operate [ov, iv] (getItem ov iv)
theorem subD_of {prog : Program} {w : World} {A : Around} {E : Value → Shared → Prop} {s : Shared} {env : Env} {value slice : Expr} {pos : Pos} {T id : String} {Q : Value → Shared → Prop}
    (hl : typeLookup (.type T) "__getitem__" = pure (some (.builtin id))) (hs : NoSl slice)
    (h : wpAny (model prog w) A (eval value env) (fun o s₁ => wpAny (model prog w) A (eval slice env) (fun i s₂ => s₂.TypeIs o T ∧ wpAny (model prog w) A (getItem o i) Q E s₂) E s₁) E s) :
    wpAny (model prog w) A (eval (.Subscript value slice pos) env) Q E s := by
  refine Subscript_ (wpAny_mono h (fun o s₁ h₁ => wpAny_mono h₁ (fun i s₂ h₂ => ?_) fun _ _ x => x) fun _ _ x => x)
  obtain ⟨hT, h₂⟩ := h₂
  unfold subscriptTail
  refine wpAny_bind ?_
  rw [getitemInPython_of_ne hT.not_modules]
  refine wpAny_bind (wpAny_specialOf hT hl ?_)
  have fin : wpAny (model prog w) A (subscripted slice false o i) (fun r s₃ => wpAny (model prog w) A (letTemporaryGo value o r >>= fun _ => pure r) Q E s₃) E s₂ := by
    rw [hs o i]
    exact wpAny_operating (wpAny_mono h₂ (fun r s₃ h₃ => wpAny_bind (wpAny_letTemporaryGo (wpAny_pure h₃))) fun _ _ x => x)
  first
    | exact wpAny_pure (wpAny_bind fin)
    | exact wpAny_bind (wpAny_pure (wpAny_bind fin))
    | exact wpAny_bind fin
theorem dict_typeIs {X : Cx} {pins : List (Addr × Obj)} {σ : St} {H : Hp} {s : Shared} {a : Addr} {y : V} {o : Option V} (I : Inv X pins σ H s) (g : DGet H a y o) : s.TypeIs (.ref a) "dict" := by
  rcases g with ⟨kvs, k, e, _, _⟩ | ⟨kvs, k, b, e, _, _, _⟩
  · obtain ⟨_, _, vs, _, dd⟩ := dk_rd I.hok e
    exact dd.typeIs
  · obtain ⟨_, _, xs, _, dd⟩ := dt_rd I.hok e
    exact dd.typeIs
def tDGet (td ty : TE) : TE := fun σ H Q => td σ H fun x H1 => ty σ H1 fun y H2 => ∃ a v, x = .ref a ∧ DGet H2 a y (some v) ∧ Q v H2
def sDPut (td ty tv : TE) : TS := fun D σ H => tv σ H fun v H1 => td σ H1 fun x H2 => ty σ H2 fun y H3 => ∃ a H4, x = .ref a ∧ DPut H3 a y v H4 ∧ D.nx σ H4
section
variable {X : Cx} {o i e value : Expr} {pos pos' tpos : Pos} {td ty tv : TE}
theorem pe_dget (hu : X.A.units + 1 < cLine) (ho : PE X o td) (hi : PE X i ty) (hs : NoSl i) : PE X (.Subscript o i pos) (tDGet td ty) := by
  intro pins s σ H Q I h
  refine subD_of PySem.F.slot_dict_getitem.lookup hs (thn (ho pins s σ H _ I h) fun u s1 ⟨x, H1, I1, rx, q1⟩ => thn (hi pins s1 σ H1 _ I1 q1) fun iv s2 ⟨y, H2, I2, ry, a, v, ex, g, q2⟩ => ?_)
  subst ex
  obtain rfl : u = Value.ref a := rx
  exact ⟨dict_typeIs I2 g, d_getItem hu I2 g ry fun w' s3 I3 rw' => ⟨v, H2, I3, rw', q2⟩⟩
theorem ps_dput (hu : X.A.units + 1 < cLine) (ho : PE X o td) (hi : PE X i ty) (hv : PE X value tv) (hs : swapsWith value (some (.Subscript o i pos')) pos.line X.env = pure false) :
    PS X (.Assign [.Subscript o i pos'] value pos) (sDPut td ty tv) := by
  intro pins s σ H D I h
  refine wpAny_Assign_Subscript (thn (hv pins s σ H _ I h) fun r s1 ⟨v, H1, I1, rv, q1⟩ => thn (ho pins s1 σ H1 _ I1 q1) fun u s2 ⟨x, H2, I2, rx, q2⟩ => thn (hi pins s2 σ H2 _ I2 q2) fun iv s3 ⟨y, H3, I3, ry, a, H4, ex, g, q3⟩ => ?_) hs
  subst ex
  obtain rfl : u = Value.ref a := rx
  exact d_setItem hu I3 g ry rv fun s4 I4 => ⟨σ, H4, I4, q3⟩
end
theorem dk_empty {P : Program} {w : World} {H : Hp} (h : Heap) (hb : sysModules < h.objs.size) : ObjOk P w H (h.push { cls := .type "dict", data := .dict #[] }) h.objs.size (.dK []) :=
  ⟨Nat.zero_le _, beq_eq_false_iff_ne.mpr (Ne.symm (Nat.ne_of_lt hb)), [], .nil, Heap.DictOf.new h⟩
section
variable {X : Cx} {pos : Pos}
end
def tPairs : List (TE × TE) → St → Hp → (List (V × V) → Hp → Prop) → Prop
  | [], _, H, Q => Q [] H
  | (tk, tv) :: r, σ, H, Q => tk σ H fun x H1 => tv σ H1 fun y H2 => tPairs r σ H2 fun ps H3 => Q ((x, y) :: ps) H3
abbrev VV : List (V × V) → List (Value × Value) → Prop := Paired fun p q => RelV p.1 q.1 ∧ RelV p.2 q.2
def PPs (X : Cx) (pos : Pos) (keys : List (Option Expr)) (values : List Expr) (trs : List (TE × TE)) : Prop :=
  ∀ (pins : List (Addr × Obj)) (s : Shared) (σ : St) (H : Hp) (Q : List (V × V) → Hp → Prop), Inv X pins σ H s → tPairs trs σ H Q →
    wpAny (model X.prog X.w) X.A (evalPairs (pairTrees keys values X.env pos)) (fun vs s' => ∃ ps H', Inv X pins σ H' s' ∧ VV ps vs ∧ Q ps H') X.xe s
theorem pps_nil {X : Cx} {pos : Pos} : PPs X pos [] [] [] := fun pins s σ H Q I h => pairTrees_nil_walk ⟨[], H, I, .nil, h⟩
theorem pps_cons {X : Cx} {pos : Pos} {k v : Expr} {ks : List (Option Expr)} {vs : List Expr} {tk tv : TE} {trs : List (TE × TE)} (hk : PE X k tk) (hv : PE X v tv) (hr : PPs X pos ks vs trs) :
    PPs X pos (some k :: ks) (v :: vs) ((tk, tv) :: trs) := fun pins s σ H Q I h =>
  pairTrees_cons_walk (thn (hk pins s σ H _ I h) fun u s1 ⟨x, H1, I1, rx, q1⟩ => thn (hv pins s1 σ H1 _ I1 q1) fun w2 s2 ⟨y, H2, I2, ry, q2⟩ =>
    thn (hr pins s2 σ H2 _ I2 q2) fun ws s3 ⟨ps, H3, I3, rel, q3⟩ => ⟨(x, y) :: ps, H3, I3, .cons ⟨rx, ry⟩ rel, q3⟩)
def mergeK (kvs more : List (Key × V)) : List (Key × V) := more.foldl (fun acc kv => putK acc kv.1 kv.2) kvs
theorem KV.merge : ∀ {more : List (Key × V)} {rs : List (Key × Value)} {kvs : List (Key × V)} {vs : List (Key × Value)}, KV more rs → KV kvs vs → KV (mergeK kvs more) (merged vs rs) := by
  intro more rs kvs vs r
  unfold KV at r
  induction r generalizing kvs vs with
  | nil => intro q; exact q
  | @cons p q ps qs h t ih =>
    intro r0
    have e : KV (putK kvs p.1 p.2) (stored vs q.1 q.2) := by
      have := r0.put p.1 h.2
      rw [← h.1]; exact this
    exact ih e
theorem length_mergeK : ∀ (more kvs : List (Key × V)), (mergeK kvs more).length ≤ kvs.length + more.length
  | [], kvs => by show kvs.length ≤ kvs.length + 0; omega
  | p :: r, kvs => by
    have h1 := length_mergeK r (putK kvs p.1 p.2)
    have h2 := length_putK kvs p.1 p.2
    show (mergeK (putK kvs p.1 p.2) r).length ≤ _
    rw [List.length_cons]; omega
theorem carries_of {P : Program} {w : World} : ∀ {kvs : List (Key × V)} {ws : List (Value × Value)}, VV (kvs.map fun kv => (kV kv.1, kv.2)) ws → ∃ rs, Carries (mixKind P w) ws rs ∧ KV kvs rs
  | [], _, r => by rw [List.map_nil] at r; cases r; exact ⟨[], True.intro, .nil⟩
  | p :: kvs, _, r => by
    rw [List.map_cons] at r
    cases r with
    | @cons a b as bs h t =>
      obtain ⟨rs, c, q⟩ := carries_of (P := P) (w := w) t
      obtain ⟨b1, b2⟩ := b
      exact ⟨(p.1, b2) :: rs, ⟨kV_is h.1, rfl, c⟩, .cons ⟨rfl, h.2⟩ q⟩
def tDisp (trs : List (TE × TE)) : TE := fun σ H Q => ∀ p, H p = none → tPairs trs σ (upd H p (.dK [])) fun ps H2 => H2 p = some (.dK []) ∧ ∃ kvs : List (Key × V), ps = kvs.map (fun kv => (kV kv.1, kv.2)) ∧ kvs.length ≤ 15 ∧ Q (.ref p) (upd H2 p (.dK (mergeK [] kvs)))
theorem pe_disp {X : Cx} {pos : Pos} {keys : List (Option Expr)} {values : List Expr} {trs : List (TE × TE)} (h : PPs X pos keys values trs) (hall : keys.all (·.isSome) = true) (hl : keys.length = values.length) (h0 : keys ≠ [])
    (h15 : keys.length ≤ 15) : PE X (.Dict keys values pos) (tDisp trs) := by
  intro pins s σ H Q I q
  have hn := I.hok.fresh (Nat.le_refl s.heap.objs.size)
  have I1 := I.laid (a := s.heap.objs.size) (o := .dK []) (h' := s.heap.push { cls := .type "dict", data := .dict #[] }) (t' := s.toks) (fun _ _ q => Heap.get?_push_of_some _ q) (Nat.le_refl _) (dk_empty s.heap I.big)
  refine wpAny_Dict_walk (knd := mixKind X.prog X.w) hall hl h0 h15 (thn (h pins _ σ _ _ I1 (q _ hn)) fun ws s2 ⟨ps, H2, I2, rel, e, kvs, ep, lk, q2⟩ => ?_)
  subst ep
  obtain ⟨rs, c, rk⟩ := carries_of (P := X.prog) (w := X.w) rel
  obtain ⟨z, hd, vs0, r0, dd⟩ := dk_of I2.hok e
  cases r0
  refine ⟨rs, c, dd, fun h' dd' hs => ⟨.ref s.heap.objs.size, _, ?_, rfl, q2⟩⟩
  have hz : (mergeK [] kvs).length ≤ sizeLine := by
    have h1 := length_mergeK kvs []
    rw [List.length_nil] at h1
    rw [sizeLine_eq]; omega
  have he : ∃ q, h'.get? s.heap.objs.size = some q := let ⟨q, _, _, hq, _⟩ := dd'; ⟨q, hq⟩
  exact d_write I2 (by rw [e]; exact True.intro) hs he (dk_new hz hd (rk.merge .nil) dd')
section
variable {X : Cx} {pins : List (Addr × Obj)} {σ : St} {H : Hp} {s : Shared} {a : Addr} {y d : V} {u r : Value} {o : Option V} {A : Around} {E : Value → Shared → Prop}
end
section
variable {X : Cx} {o e f : Expr} {apos cpos : Pos} {td ty tx : TE}
end
section
variable {X : Cx} {pins : List (Addr × Obj)} {σ : St} {H : Hp} {s : Shared} {a : Addr} {kvs : List (Key × V)} {A : Around} {E : Value → Shared → Prop}
end
section
variable {X : Cx} {pins : List (Addr × Obj)} {σ : St} {H : Hp} {s : Shared} {a : Addr} {y : V} {u : Value} {A : Around} {E : Value → Shared → Prop}
end
end L2
set_option Elab.async false
set_option linter.all false
set_option maxRecDepth 100000
set_option maxHeartbeats 4000000
namespace L2
open PySem PySem.Spec PyProof.Rows
section
variable {X : Cx} {pins : List (Addr × Obj)} {σ : List (Option V)} {H H' : Hp} {s : Shared} {h' : Heap}
end
end L2
set_option Elab.async false
set_option linter.all false
set_option maxRecDepth 100000
set_option maxHeartbeats 4000000
namespace L2
open PySem PySem.Spec PyProof.Rows
def clOf (env : Env) : List (Str × NameKind) → List (Str × Addr) → List (Str × Addr)
  | [], cs => cs
  | (n, k) :: r, cs => clOf env r (if k == .free then (n, (env.cells.lookup n).getD 0) :: cs else cs)
theorem clos_forIn {env : Env} : ∀ (names : List (Str × NameKind)) (cs : List (Str × Addr)), (∀ y ∈ names, y.2 = .free → ∃ c, env.cells.lookup y.1 = some c) →
    (forIn names cs fun (x : Str × NameKind) (r : List (Str × Addr)) => (match x with
      | (name, kind) => if (kind == NameKind.free) = true then (cellOf env name >>= fun a => pure (ForInStep.yield ((name, a) :: r)) : Sem (ForInStep (List (Str × Addr)))) else pure (ForInStep.yield r))) = pure (clOf env names cs)
  | [], cs, _ => rfl
  | (n, k) :: r, cs, h => by
    have ih := fun cs' => clos_forIn r cs' fun y hy => h y (List.mem_cons_of_mem _ hy)
    rw [List.forIn_cons]
    by_cases hk : k = .free
    · subst hk
      obtain ⟨c, hc⟩ := h (n, .free) List.mem_cons_self rfl
      have e : cellOf env n = pure c := by unfold cellOf; rw [hc]
      simp only [beq_self_eq_true, if_true, e, pure_bind]
      rw [ih]
      show _ = pure (clOf env r (if (NameKind.free == NameKind.free) = true then _ else _))
      rw [hc]; rfl
    · have hb : (k == NameKind.free) = false := by simpa using hk
      simp only [hb, Bool.false_eq_true, if_false, pure_bind]
      rw [ih]
      show _ = pure (clOf env r (if (k == NameKind.free) = true then _ else _))
      rw [hb]; rfl
theorem closureFor_clOf {env : Env} {scope : Scope} (h : ∀ y ∈ scope.names, y.2 = .free → ∃ c, env.cells.lookup y.1 = some c) : closureFor scope env = pure (clOf env scope.names []) := by
  unfold closureFor
  have e := clos_forIn (env := env) scope.names [] h
  show ((forIn scope.names [] _ : Sem (List (Str × Addr))) >>= fun cs => pure cs) = _
  rw [bind_pure]
  refine Eq.trans ?_ e
  first
    | rfl
    | (congr 1; funext x r; obtain ⟨n, k⟩ := x; dsimp only; split <;> simp)
theorem mem_clOf {env : Env} {x : Str} {c : Addr} : ∀ (names : List (Str × NameKind)) (cs : List (Str × Addr)), (x, c) ∈ clOf env names cs → (x, c) ∈ cs ∨ ((x, NameKind.free) ∈ names ∧ c = (env.cells.lookup x).getD 0)
  | [], cs, h => .inl h
  | (n, k) :: r, cs, h => by
    have h' : (x, c) ∈ clOf env r (if (k == NameKind.free) = true then (n, (env.cells.lookup n).getD 0) :: cs else cs) := h
    rcases mem_clOf r _ h' with z | ⟨z1, z2⟩
    · by_cases hk : k = .free
      · subst hk
        simp only [beq_self_eq_true, if_true, List.mem_cons] at z
        rcases z with z | z
        · cases z; exact .inr ⟨List.mem_cons_self, rfl⟩
        · exact .inl z
      · have hb : (k == NameKind.free) = false := by simpa using hk
        rw [hb] at z
        exact .inl z
    · exact .inr ⟨List.mem_cons_of_mem _ z1, z2⟩
theorem clOf_mono {env : Env} {p : Str × Addr} : ∀ (names : List (Str × NameKind)) (cs : List (Str × Addr)), p ∈ cs → p ∈ clOf env names cs
  | [], cs, h => h
  | (n, k) :: r, cs, h => by
    show p ∈ clOf env r (if (k == NameKind.free) = true then (n, (env.cells.lookup n).getD 0) :: cs else cs)
    refine clOf_mono r _ ?_
    split
    · exact List.mem_cons_of_mem _ h
    · exact h
theorem clOf_has {env : Env} {x : Str} : ∀ (names : List (Str × NameKind)) (cs : List (Str × Addr)), (x, NameKind.free) ∈ names → (x, (env.cells.lookup x).getD 0) ∈ clOf env names cs
  | [], _, h => by cases h
  | (n, k) :: r, cs, h => by
    show _ ∈ clOf env r (if (k == NameKind.free) = true then (n, (env.cells.lookup n).getD 0) :: cs else cs)
    rcases List.mem_cons.mp h with z | z
    · cases z
      exact clOf_mono r _ (by simp)
    · exact clOf_has r _ z
theorem mem_of_lookup' {α β : Type} [BEq α] [LawfulBEq α] {x : α} {c : β} : ∀ {l : List (α × β)}, l.lookup x = some c → (x, c) ∈ l
  | [], h => by simp at h
  | (n, k) :: r, h => by
    rw [List.lookup_cons] at h
    by_cases e : x = n
    · subst e; simp at h; subst h; exact List.mem_cons_self
    · have : (x == n) = false := by simpa using e
      rw [this] at h
      exact List.mem_cons_of_mem _ (mem_of_lookup' h)
theorem lookup_of_mem' {α β : Type} [BEq α] [LawfulBEq α] {x : α} {c : β} : ∀ {l : List (α × β)}, (x, c) ∈ l → ∃ c', l.lookup x = some c'
  | [], h => by cases h
  | (n, k) :: r, h => by
    rw [List.lookup_cons]
    by_cases e : x = n
    · subst e; simp
    · have q : (x == n) = false := by simpa using e
      rw [q]
      rcases List.mem_cons.mp h with z | z
      · cases z; exact absurd rfl e
      · exact lookup_of_mem' z
theorem lookup_relabel_mem {env : Env} {x : Str} {k' : NameKind} : ∀ {names : List (Str × NameKind)},
    (names.map fun (n, k) => if (k == NameKind.free && env.scope.kind == .function && env.kindOf n == some .cell) then (n, NameKind.cell) else (n, k)).lookup x = some k' →
    (x, k') ∈ names ∨ (k' = .cell ∧ (x, NameKind.free) ∈ names)
  | [], h => by simp at h
  | (n, k) :: r, h => by
    rw [List.map_cons, List.lookup_cons] at h
    dsimp only at h
    by_cases e : x = n
    · subst e
      by_cases hc : (k == NameKind.free && env.scope.kind == .function && env.kindOf x == some .cell) = true
      · rw [if_pos hc] at h
        simp at h
        have hk : k = .free := by
          simp only [Bool.and_eq_true, beq_iff_eq] at hc
          exact hc.1.1
        subst hk
        exact .inr ⟨h.symm, List.mem_cons_self⟩
      · rw [if_neg hc] at h
        simp at h
        subst h
        exact .inl List.mem_cons_self
    · have q : (x == (if (k == NameKind.free && env.scope.kind == .function && env.kindOf n == some .cell) = true then (n, NameKind.cell) else (n, k)).1) = false := by
        split <;> simpa using e
      rw [q] at h
      rcases lookup_relabel_mem h with z | ⟨z1, z2⟩
      · exact .inl (List.mem_cons_of_mem _ z)
      · exact .inr ⟨z1, List.mem_cons_of_mem _ z2⟩
structure CompScope (X : Cx) (scope : Scope) (own frn : List Str) (frj : List Nat) : Prop where
  cell : ∀ y ∈ scope.names, y.2 ≠ .cell
  kind : scope.kind = .function
  names : ∀ y ∈ scope.names, y.2 = .local → scope.names.lookup y.1 = some .local
  free : ∀ y ∈ scope.names, y.2 = .free → X.env.scope.names.lookup y.1 = some .cell ∨ X.env.scope.names.lookup y.1 = some .free
  frl : frj.length = frn.length
  frN : ∀ (i j : Nat), frj[i]? = some j → X.N[j]? = frn[i]?
  frF : ∀ x ∈ frn, (x, NameKind.free) ∈ scope.names ∧ scope.names.lookup x = some .free
def cxComp (X : Cx) (own frn : List Str) (scope : Scope) (C : Addr) (s₃ : Shared) (H₃ : Hp) (fp : List Addr) : Cx :=
  { X with N := own ++ frn, s₀ := s₃, H₀ := H₃, env := compEnvC scope (clOf X.env scope.names []) C X.env, outer := X.stack, stack := X.stack, ex := fp, fn := fun _ => false, pn := [], xe := fun _ _ => False }
def startC (own : List Str) (frj : List Nat) (σ : St) : St := List.replicate own.length none ++ frj.map fun j => (σ[j]?).join
section
variable {X : Cx} {pins : List (Addr × Obj)} {σ : List (Option V)} {H : Hp} {s : Shared} {scope : Scope} {own frn : List Str} {frj : List Nat}
theorem CompScope.cells (sc : CompScope X scope own frn frj) (ok : X.Ok) : ∀ y ∈ scope.names, y.2 = .free → ∃ c, X.env.cells.lookup y.1 = some c := fun y hy hf => by
  rcases sc.free y hy hf with z | z
  · exact ok.has y.1 (.inl z)
  · exact ok.has y.1 (.inr z)
theorem CompScope.look (sc : CompScope X scope own frn frj) (ok : X.Ok) {x : Str} {c : Addr} (h : (clOf X.env scope.names []).lookup x = some c) : X.env.cells.lookup x = some c ∧ (x, NameKind.free) ∈ scope.names := by
  rcases mem_clOf _ _ (mem_of_lookup' h) with z | ⟨z1, z2⟩
  · cases z
  · obtain ⟨c', hc⟩ := sc.cells ok (x, .free) z1 rfl
    have hc' : X.env.cells.lookup x = some c' := hc
    rw [hc'] at z2
    have z3 : c = c' := z2
    subst z3
    exact ⟨hc', z1⟩
theorem CompScope.lookF (sc : CompScope X scope own frn frj) (ok : X.Ok) {x : Str} (h : (x, NameKind.free) ∈ scope.names) : ∃ c, (clOf X.env scope.names []).lookup x = some c ∧ X.env.cells.lookup x = some c := by
  obtain ⟨c, hc⟩ := lookup_of_mem' (clOf_has (env := X.env) scope.names [] h)
  exact ⟨c, hc, (sc.look ok hc).1⟩
theorem Inv.block {fp : List Addr} {h₄ : Heap} {tk : Nat} (I : Inv X pins σ H s) (sc : CompScope X scope own frn frj) (hfp : ∀ b ∈ fp, FpOk X pins H b) (hfl : ∀ b ∈ fp, b < s.heap.objs.size)
    (k : ∀ b o, s.heap.get? b = some o → h₄.get? b = some o) (hn : h₄.Ns s.heap.objs.size fun _ => none) :
    Inv (cxComp X own frn scope s.heap.objs.size s H fp) [] (startC own frj σ) H { s with heap := h₄, toks := tk } := by
  have ok := I.ok
  refine ⟨⟨ok.mod, by show (relabel scope X.env).kind = _; exact sc.kind, ok.glob, ok.blt, Nat.le_refl _, ?_, ?_, fun x c h => (nomatch h), ok.hd, ok.frames, .inl rfl, ?_, fun b o e => I.bs b o e, Nat.le_trans ok.bsz I.sz, ?_, ?_, I.stack, I.stkFree⟩, rfl, I.bare, Un.kept k, ?_, ?_, I.fresh, ?_, fun p hp => (nomatch hp), I.hok.kept k, ?_⟩
  · intro x y c e1 e2
    exact ok.inj x y c (sc.look ok e1).1 (sc.look ok e2).1
  · intro x h
    have mem : (x, NameKind.free) ∈ scope.names := by
      rcases h with h | h
      · rcases lookup_relabel_mem h with z | ⟨_, z⟩
        · exact absurd rfl (sc.cell _ z)
        · exact z
      · rcases lookup_relabel_mem h with z | ⟨z, _⟩
        · exact z
        · cases z
    obtain ⟨c, hc, _⟩ := sc.lookF ok mem
    exact ⟨c, hc⟩
  · intro b hb
    obtain ⟨f0, f1, f2, f3, f4, f5⟩ := hfp b hb
    exact ⟨Nat.ne_of_lt (hfl b hb), fun x c e => f4 x c (sc.look ok e).1⟩
  · intro b o e hb
    rcases (hfp b hb).2.2.2.1 with z | z
    · exact ok.noex b o e z
    · exact absurd (Nat.lt_of_lt_of_le (Heap.lt_size e) (Nat.le_trans ok.bsz z)) (Nat.lt_irrefl _)
  · intro b hb hfs
    obtain ⟨f0, f1, f2, _⟩ := hfp b hb
    rcases List.mem_cons.mp (I.stkSub b hfs) with z | z
    · exact f1 z
    · exact f2 z
  · refine ⟨_, hn, fun i x v e1 e2 e3 => ?_⟩
    have e1' : (own ++ frn)[i]? = some x := e1
    have e2' : (List.replicate own.length none ++ frj.map fun j => (σ[j]?).join)[i]? = some (some v) := e2
    by_cases hi : i < own.length
    · rw [List.getElem?_append_left (by simpa using hi)] at e2'
      rw [List.getElem?_replicate] at e2'
      split at e2' <;> cases e2'
    · rw [List.getElem?_append_right (by simp; omega), List.length_replicate] at e2'
      rw [List.getElem?_append_right (by omega)] at e1'
      rw [List.getElem?_map] at e2'
      cases ej : frj[i - own.length]? with
      | none => rw [ej] at e2'; cases e2'
      | some j =>
        rw [ej] at e2'
        have e2'' : (σ[j]?).join = some v := by simpa using e2'
        have e4 : σ[j]? = some (some v) := by
          cases q : σ[j]? with
          | none => rw [q] at e2''; cases e2''
          | some o => rw [q] at e2''; simpa using e2''
        have e5 := (sc.frN _ j ej).trans e1'
        obtain ⟨hm, hlk⟩ := sc.frF x (List.mem_of_getElem? e1')
        obtain ⟨m, hnL, hl⟩ := I.loc
        have hv : Vis X.env.scope x := by
          rcases sc.free (x, .free) hm rfl with z | z
          · exact .inr (.inl z)
          · exact .inr (.inr z)
        obtain ⟨u, r, lk⟩ := hl j x v e5 e4 hv
        refine ⟨u, r, .inr ?_⟩
        obtain ⟨c, hc, hc'⟩ := sc.lookF ok hm
        have cellOk : h₄.IsCell c (some u) := by
          rcases lk with ⟨z, _⟩ | ⟨_, c', hx, ⟨o, ho, hd⟩⟩
          · exfalso
            have z' : X.env.scope.names.lookup x = some .local := z
            rcases sc.free (x, .free) hm rfl with q | q
            · rw [show X.env.scope.names.lookup x = some .cell from q] at z'; cases z'
            · rw [show X.env.scope.names.lookup x = some .free from q] at z'; cases z'
          · rw [hc'] at hx; cases hx
            exact ⟨o, k _ o ho, hd⟩
        refine ⟨?_, c, hc, cellOk⟩
        have e3' : Vis (relabel scope X.env) x := e3
        rcases e3' with z | z | z
        · exfalso
          rcases lookup_relabel_mem z with q | ⟨q, _⟩
          · have := sc.names _ q rfl
            rw [show scope.names.lookup x = some .local from this] at hlk
            cases hlk
          · cases q
        · exact .inl z
        · exact .inr z
  · intro x c e
    obtain ⟨v, o, ho, hd⟩ := I.cell x c (sc.look ok e).1
    exact ⟨v, o, k _ o ho, hd⟩
  · intro x c e
    exact I.freeC x c (sc.look ok e).1
  · show (List.replicate own.length none ++ frj.map fun j => (σ[j]?).join).length = (own ++ frn).length
    simp [sc.frl]
end
theorem codeAny_compLoop_any {prog : Program} {w : World} {A : Around} {R : Result → Shared → Prop} {s : Shared} {elt target iter : Expr} {ifs : List Expr} {scope : Scope} {pos : Pos} {it acc : Value} {env : Env} (I : Nat → Shared → Prop)
    (turn : ∀ n s, I n s → wpAny (model prog w) A (pyNext it) (fun r s₁ => match r with
      | none => R (.ok .next) s₁
      | some v => wpAny (model prog w) A (letOwnedTupleGo target it v) (fun _ s₁' => wpAny (model prog w) A (assign target env v) (fun _ s₂ =>
          wpAny (model prog w) A (forIn ifs true fun c r => if r = true then do let ok ← isTrue c env (eval c env); pure (ForInStep.yield ok) else pure (ForInStep.yield r)) (fun ok s₃ =>
            if ok = true then wpAny (model prog w) A (eval elt env) (fun x s₄ =>
              wpAny (model prog w) A (call (.builtin "list.append") [acc, x]) (fun _ s₅ => ∃ m, m < n ∧ I m s₅) (fun _ _ => False) s₄) (fun _ _ => False) s₃
            else ∃ m, m < n ∧ I m s₃) (fun _ _ => False) s₂) (fun _ _ => False) s₁') (fun _ _ => False) s₁) (fun _ _ => False) s)
    (n : Nat) (h : I n s) :
    codeAny (model prog w) A (.compLoop (.ListComp elt [⟨target, iter, ifs, 0⟩] scope pos) 0 it acc env) R s := by
  refine codeAny_loop rfl I (fun n s hI => ?_) n h
  show wpAny _ A ((compTurn (.ListComp elt [⟨target, iter, ifs, 0⟩] scope pos) 0 it acc env).onRaise (fun x => do noteFrame x env; theTreesLotGoes x)) _ _ s
  refine wpAny_noted ?_
  rw [compTurn_list]
  refine wpAny_bind (wpAny_standAt (wpAny_bind (wpAny_mono (turn n s hI) (fun r s₁ h₁ => ?_) fun _ _ h' => h'.elim)))
  cases r with
  | none => exact wpAny_pure h₁
  | some v =>
    refine wpAny_bind (wpAny_mono h₁ (fun _ s₁' h₁' => ?_) fun _ _ h' => h'.elim)
    refine wpAny_bind (wpAny_mono h₁' (fun _ s₂ h₂ => wpAny_bind (wpAny_mono h₂ (fun ok s₃ h₃ => ?_) fun _ _ h' => h'.elim)) fun _ _ h' => h'.elim)
    cases ok with
    | false => exact wpAny_pure ⟨rfl, h₃⟩
    | true =>
      exact wpAny_bind (wpAny_bind (wpAny_mono h₃ (fun x s₄ h₄ => wpAny_bind (wpAny_mono h₄ (fun _ s₅ h₅ => wpAny_pure (wpAny_pure ⟨rfl, h₅⟩)) fun _ _ h' => h'.elim)) fun _ _ h' => h'.elim))
def PIfs (X : Cx) (ifs : List Expr) (t : TT) : Prop :=
  ∀ (pins : List (Addr × Obj)) (s : Shared) (σ : St) (H : Hp) (Q : Bool → Hp → Prop), Inv X pins σ H s → t σ H Q →
    wpAny (model X.prog X.w) X.A (forIn ifs true fun c r => if r = true then do let ok ← isTrue c X.env (eval c X.env); pure (ForInStep.yield ok) else pure (ForInStep.yield r)) (TP X pins σ Q) X.xe s
def tTrue : TT := fun _ H Q => Q true H
theorem pifs_nil {X : Cx} : PIfs X [] tTrue := fun _ _ _ H _ I h => wpAny_tests_nil ⟨H, I, h⟩
theorem pifs_one {X : Cx} {c : Expr} {t : TT} (h : PT X c t) : PIfs X [c] t := fun pins s σ H Q I hq => wpAny_tests_one (h pins s σ H Q I hq)
def cLoop (J : It) (g : TG) (tt : TT) (te : TE) (D : Addr) (σ : St) (H : Hp) (R : Hp → Prop) : Prop :=
  ∃ W : Nat → Nat → St → Hp → Prop, (∃ m, W 0 m σ H) ∧ ∀ i m σ H, W i m σ H → (J.stop i H ∧ R H) ∨ (J.go i H ∧ ∃ N : St → Hp → Prop, (∀ σ' H', N σ' H' → ∃ m', m' < m ∧ W (i + 1) m' σ' H') ∧
    ∀ x H', J.yld i H x H' → g x σ H' fun σ2 H2 => tt σ2 H2 fun b H3 => if b = true then te σ2 H3 fun y H4 => ∃ ys, H4 D = some (.lst ys) ∧ ys.length < sizeLine ∧ N σ2 (upd H4 D (.lst (ys ++ [y]))) else N σ2 H3)
section
variable {X : Cx} {scope : Scope} {own frn : List Str} {frj : List Nat} {elt tg iter : Expr} {ifs : List Expr} {pos : Pos} {g : TG} {tt : TT} {te : TE}
theorem comp_block {pins : List (Addr × Obj)} {σ : St} {H : Hp} {s : Shared} {J : It} {fp : List Addr} {it : Addr} {tn : Nat → Heap → Prop} {R : Addr → Hp → Prop} {RR : Value → Addr → Result → Shared → Prop} {E : Value → Shared → Prop}
    (sc : CompScope X scope own frn frj) (hc : X.calm = true)
    (hg : ∀ C s₃ H₃ fp, PG (cxComp X own frn scope C s₃ H₃ fp) tg g) (ht : ∀ C s₃ H₃ fp, PIfs (cxComp X own frn scope C s₃ H₃ fp) ifs tt) (he : ∀ C s₃ H₃ fp, PE (cxComp X own frn scope C s₃ H₃ fp) elt te)
    (I : Inv X pins σ H s) (T : Turn X.prog X.w X.K tg J fp it tn) (st : tn 0 s.heap) (hfp : ∀ b ∈ fp, FpOk X pins H b)
    (h : ∀ D, H D = none → cLoop J g tt te D (startC own frj σ) (upd H D (.lst [])) (R D))
    (hRR : ∀ D C H' s' m, Inv X pins σ H' s' → s.heap.objs.size ≤ C → s'.heap.Ns C m → H' C = none → R D H' → RR (.ref D) C (.ok .next) s') :
    wpAny (model X.prog X.w) X.A (newList []) (fun acc s₃ => wpAny (model X.prog X.w) X.A (newFunctionEnv scope X.env.globals (clOf X.env scope.names []) [] X.env.qual none .none (some X.env)) (fun cenv s₄ =>
      codeAny (model X.prog X.w) X.A (.compStart (.ListComp elt [⟨tg, iter, ifs, 0⟩] scope pos) 0 (.ref it) acc { cenv with scope := relabel scope X.env }) (RR acc cenv.locals) s₄) E s₃) E s := by
  refine wpAny_newObj_type (wpAny_newFunctionEnv sc.cell (by intro y hy; simp at hy) (fun h₁ hns₁ hsb₁ => ?_) sc.kind)
  dsimp only at hns₁ hsb₁ ⊢
  have hD := I.fresh
  have I3 : Inv X pins σ (upd H s.heap.objs.size (.lst [])) { s with heap := s.heap.push { cls := .type "list", dict := none, data := .seq ([] : List Value).toArray } } := I.lnew (its := []) (t' := s.toks) .nil (Nat.zero_le _)
  have hsz : (s.heap.push { cls := .type "list", dict := none, data := .seq ([] : List Value).toArray }).objs.size = s.heap.objs.size + 1 := Heap.size_push ..
  generalize hs3 : ({ s with heap := s.heap.push { cls := .type "list", dict := none, data := .seq ([] : List Value).toArray } } : Shared) = s₃ at I3
  have hh3 : s.heap.push { cls := .type "list", dict := none, data := .seq ([] : List Value).toArray } = s₃.heap := by rw [← hs3]
  rw [hh3] at hns₁ hsb₁ hsz ⊢
  have hfl : ∀ b ∈ fp, b < s.heap.objs.size := fun b hb => by
    obtain ⟨o, e, _⟩ := T.obj 0 _ st b hb
    exact Heap.lt_size e
  have hfp3 : ∀ b ∈ fp, FpOk X pins (upd H s.heap.objs.size (.lst [])) b := fun b hb => by
    obtain ⟨f0, f⟩ := hfp b hb
    exact ⟨by rw [upd_ne (Nat.ne_of_lt (hfl b hb))]; exact f0, f⟩
  have hfl3 : ∀ b ∈ fp, b < s₃.heap.objs.size := fun b hb => by rw [hsz]; exact Nat.lt_succ_of_lt (hfl b hb)
  have k4 : ∀ b o, s₃.heap.get? b = some o → h₁.get? b = some o := fun b o e => (hsb₁.2 b (Nat.ne_of_lt (Heap.lt_size e))).trans (Heap.get?_push_of_some _ e)
  have k3 : ∀ b o, s.heap.get? b = some o → s₃.heap.get? b = some o := fun b o e => by rw [← hh3]; exact Heap.get?_push_of_some _ e
  have hnone : (fun x : Str => List.lookup x ([] : List (Str × Value)).reverse) = fun _ => none := by funext x; rfl
  have hns₁' : h₁.Ns s₃.heap.objs.size fun _ => none := by
    have q := hns₁
    first
      | exact q
      | (rw [hnone] at q; exact q)
  have I4 := I3.block (own := own) (tk := s.toks + ([] : List (Str × Value)).length) sc hfp3 hfl3 k4 hns₁'
  have st4 : tn 0 h₁ := T.keep _ _ _ st fun b hb o e => k4 b o (k3 b o e)
  generalize hX : cxComp X own frn scope s₃.heap.objs.size s₃ (upd H s.heap.objs.size (.lst [])) fp = X' at I4
  have hXp : X'.prog = X.prog := by rw [← hX]; rfl
  have hXw : X'.w = X.w := by rw [← hX]; rfl
  have hXK : X'.K = X.K := by rw [← hX]; rfl
  have hXA : X'.A = X.A := by rw [← hX]; rfl
  have hXc : X'.calm = true := by rw [← hX]; exact hc
  have hXx : X'.xe = fun _ _ => False := by rw [← hX]; rfl
  have hXe : X'.env = compEnvC scope (clOf X.env scope.names []) s₃.heap.objs.size X.env := by rw [← hX]; rfl
  have hg' : PG X' tg g := by rw [← hX]; exact hg _ _ _ _
  have ht' : PIfs X' ifs tt := by rw [← hX]; exact ht _ _ _ _
  have he' : PE X' elt te := by rw [← hX]; exact he _ _ _ _
  have ofX : ∀ {H' : Hp} {s' : Shared} {σ' : St}, Inv X' [] σ' H' s' → Inv X pins σ H' s' ∧ (∃ m, s'.heap.Ns s₃.heap.objs.size m) ∧ H' s₃.heap.objs.size = none := by
    intro H' s' σ' I'
    subst hX
    refine ⟨I3.call' (ch := fp) I'.os I'.base I'.hok I'.bare fun b hb => ?_, let ⟨m, hn, _⟩ := I'.loc; ⟨m, hn⟩, I'.free⟩
    obtain ⟨f0, f1, f2, f3, f4, f5⟩ := hfp3 b hb
    exact ⟨f3, f1, f4, f5⟩
  have stat : ∀ {H' : Hp}, (∀ b ∈ fp, H' b = none) → ∀ b ∈ fp, FpOk X' [] H' b := by
    intro H' hn b hb
    subst hX
    obtain ⟨a1, a2⟩ := I4.ok.exf b hb
    exact ⟨hn b hb, a1, I4.ok.exfs b hb, .inl hb, a2, fun p hp => by cases hp⟩
  obtain ⟨W, ⟨m0, w0⟩, turn⟩ := h s.heap.objs.size hD
  have loop : codeAny (model X.prog X.w) X.A (.compLoop (.ListComp elt [⟨tg, iter, ifs, 0⟩] scope pos) 0 (.ref it) (.ref s.heap.objs.size) X'.env) (RR (.ref s.heap.objs.size) s₃.heap.objs.size)
      { s₃ with heap := h₁, toks := s.toks + ([] : List (Str × Value)).length } := by
    refine codeAny_compLoop_any (fun n s' => ∃ i σ' H', Inv X' [] σ' H' s' ∧ tn i s'.heap ∧ (∀ b ∈ fp, H' b = none) ∧ W i n σ' H') ?_ m0 ⟨0, _, _, I4, st4, fun b hb => (hfp3 b hb).1, w0⟩
    rintro n s5 ⟨i, σ5, H5, I5, st5, fr5, w5⟩
    rw [← hXp, ← hXw, ← hXA]
    have hxe : ∀ {α : Type} {t : Sem α} {Q : α → Shared → Prop} {s : Shared}, wpAny (model X'.prog X'.w) X'.A t Q X'.xe s → wpAny (model X'.prog X'.w) X'.A t Q (fun _ _ => False) s := fun h => by rw [hXx] at h; exact h
    have T' : Turn X'.prog X'.w X'.K tg J fp it tn := by rw [hXp, hXw, hXK]; exact T
    rcases turn i n σ5 H5 w5 with ⟨stop, q⟩ | ⟨go, N, hN, step⟩
    · refine thn (T'.done X' rfl rfl rfl hXc i [] s5 σ5 H5 _ I5 (stat fr5) st5 stop) fun r s6 ⟨hr, I6⟩ => ?_
      subst hr
      obtain ⟨J1, ⟨m, J2⟩, J3⟩ := ofX I6
      exact hRR _ _ H5 s6 m J1 (by rw [hsz]; exact Nat.le_succ _) J2 J3 q
    · refine thn (T'.item X' rfl rfl rfl hXc i [] s5 σ5 H5 _ I5 (stat fr5) st5 go) fun r s6 ⟨u, hr, h6⟩ => ?_
      subst hr
      refine thn h6 fun _ s7 ⟨x, H7, I7, r7, y7, st7, fr7⟩ => ?_
      have I7' := I7.pinned (stat fr7) (T'.obj _ _ st7)
      have again : ∀ {s9 : Shared} {σ9 : St} {H9 : Hp}, Inv X' ([] ++ pinsAt fp s7.heap) σ9 H9 s9 → N σ9 H9 → ∃ m, m < n ∧ ∃ i σ' H', Inv X' [] σ' H' s9 ∧ tn i s9.heap ∧ (∀ b ∈ fp, H' b = none) ∧ W i m σ' H' := fun {s9 σ9 H9} I9 n9 => by
        obtain ⟨m', hm, w9⟩ := hN σ9 H9 n9
        refine ⟨m', hm, i + 1, σ9, H9, I9.unpinned, T'.keep _ _ _ st7 fun b hb o e => (I9.pin (b, o) (List.mem_append_right _ (List.mem_append_right _ (mem_pinsAt hb e)))).1, fun b hb => ?_, w9⟩
        obtain ⟨o, e, d⟩ := T'.obj _ _ st7 b hb
        exact (I9.pin (b, o) (List.mem_append_right _ (List.mem_append_right _ (mem_pinsAt hb e)))).2.1
      refine thn (hxe (hg' _ s7 σ5 H7 x u _ I7' r7 (step x H7 y7))) fun _ s8 ⟨σ8, H8, I8, q8⟩ => ?_
      refine thn (hxe (ht' _ s8 σ8 H8 _ I8 q8)) fun b s9 ⟨H9, I9, q9⟩ => ?_
      cases b with
      | false => exact again I9 (by simpa using q9)
      | true =>
        rw [if_pos rfl] at q9
        refine thn (hxe (he' _ s9 σ8 H9 _ I9 q9)) fun y s10 ⟨v, H10, I10, r10, q10⟩ => ?_
        obtain ⟨ys, e10, z10, n10⟩ := q10
        refine thn (hxe (mt_append _ s10 σ8 H10 (.ref s.heap.objs.size) [v] (.ref s.heap.objs.size) [y] (fun _ H' => H' = upd H10 s.heap.objs.size (.lst (ys ++ [v]))) I10 rfl (.cons r10 .nil) ⟨_, ys, v, rfl, rfl, e10, z10, rfl⟩)) fun u s11 ⟨v', H11, I11, _, e11⟩ => ?_
        subst e11
        exact again I11 n10
  rw [hXe] at loop
  have e4 : ({ s with heap := h₁, toks := s.toks + ([] : List (Str × Value)).length } : Shared) = { s₃ with heap := h₁, toks := s.toks + ([] : List (Str × Value)).length } := by rw [← hs3]
  rw [e4]
  exact codeAny_compStart_list loop (T.self _ 0 _ _ _ st4 loop)
end
end L2
set_option Elab.async false
set_option linter.all false
set_option maxRecDepth 100000
set_option maxHeartbeats 4000000
namespace L2
open PySem PySem.Spec PyProof.Rows
def tComp (own : List Str) (frj : List Nat) (wi : TI) (g : TG) (tt : TT) (te : TE) : TE := fun σ H Q => wi σ H fun J H1 => ∀ D, H1 D = none → cLoop J g tt te D (startC own frj σ) (upd H1 D (.lst [])) fun H' => Q (.ref D) H'
section
variable {X : Cx} {scope : Scope} {own frn : List Str} {frj : List Nat} {elt tg iter : Expr} {ifs : List Expr} {pos : Pos} {wi : TI} {g : TG} {tt : TT} {te : TE}
theorem pe_comp (sc : CompScope X scope own frn frj) (hc : X.calm = true) (hi : PI X tg iter wi)
    (hg : ∀ C s₃ H₃ fp, PG (cxComp X own frn scope C s₃ H₃ fp) tg g) (ht : ∀ C s₃ H₃ fp, PIfs (cxComp X own frn scope C s₃ H₃ fp) ifs tt) (he : ∀ C s₃ H₃ fp, PE (cxComp X own frn scope C s₃ H₃ fp) elt te)
    (hs : ∀ x, foldedSetIterable iter X.env x = pure x := by intro _; rfl) : PE X (.ListComp elt [⟨tg, iter, ifs, 0⟩] scope pos) (tComp own frj wi g tt te) := by
  intro pins s σ H Q I h
  rw [eval_ListComp]
  refine wpAny_comprehension_free (use := none) rfl hs (closureFor_clOf (sc.cells I.ok)) sc.kind sc.names (thn (hi pins s σ H _ I h) fun v s1 h1 => thn h1 fun itv s2 h2 => ?_)
  obtain ⟨it, fp, tn, J, H2, e, I2, T, st2, f2, q⟩ := h2
  subst e
  refine comp_block (RR := fun acc C => compPost (model X.prog X.w) X.A X.xe none (EP X pins σ Q) acc C) (R := fun D H' => Q (.ref D) H') sc hc hg ht he I2 T st2 f2 q ?_
  intro D C H' s' m I' hC hn hf hq
  refine ⟨m, hn, fun h' sb => ?_⟩
  obtain ⟨f0, f1, f2, f3, f4, f5⟩ := I2.fpOk (H' := H') hC hf
  exact ⟨.ref D, H', I'.turned (t' := s'.toks) (it := C) (fun b o hb e => (sb.2 b hb).trans e) f0 f1 f3 f4 f5, rfl, hq⟩
theorem ps_setComp {i : Nat} {y : Str} {py spos : Pos} (sc : CompScope X scope own frn frj) (hc : X.calm = true) (hi : PI X tg iter wi)
    (hg : ∀ C s₃ H₃ fp, PG (cxComp X own frn scope C s₃ H₃ fp) tg g) (ht : ∀ C s₃ H₃ fp, PIfs (cxComp X own frn scope C s₃ H₃ fp) ifs tt) (he : ∀ C s₃ H₃ fp, PE (cxComp X own frn scope C s₃ H₃ fp) elt te)
    (hN : X.N.Nodup) (hi' : X.N[i]? = some y) (hx : X.env.scope.names.lookup y = some .local)
    (hsw : swapsWith (.ListComp elt [⟨tg, iter, ifs, 0⟩] scope pos) (some (.Name y py)) spos.line X.env = pure true := by rfl)
    (hs : ∀ x, foldedSetIterable iter X.env x = pure x := by intro _; rfl) : PS X (.Assign [.Name y py] (.ListComp elt [⟨tg, iter, ifs, 0⟩] scope pos) spos) (tAsg (tComp own frj wi g tt te) (gName i)) := by
  intro pins s σ H D I h
  rw [exec_Assign_Name_used _ _ _ _ hsw]
  refine wpAny_bind (wpAny_standAt (wpAny_bind ?_))
  show wpAny _ X.A (do let _ ← comprehension (.ListComp elt [⟨tg, iter, ifs, 0⟩] scope pos) scope X.env _ (newList []) false (eval iter X.env) (some (assign (.Name y py) X.env))) _ _ s
  refine wpAny_bind (wpAny_mono (wpAny_comprehension_free (use := some (assign (.Name y py) X.env)) (Q := fun _ s' => SP X pins D .next s') rfl hs (closureFor_clOf (sc.cells I.ok)) sc.kind sc.names
    (thn (hi pins s σ H _ I h) fun v s1 h1 => thn h1 fun itv s2 h2 => ?_)) (fun _ s' hq => wpAny_pure (wpAny_pure hq)) fun _ _ e => e)
  obtain ⟨it, fp, tn, J, H2, e, I2, T, st2, f2, q⟩ := h2
  subst e
  refine comp_block (RR := fun acc C => compPost (model X.prog X.w) X.A X.xe (some (assign (.Name y py) X.env)) (fun _ s' => SP X pins D .next s') acc C) (R := fun E H' => D.nx (σ.set i (some (.ref E))) H') sc hc hg ht he I2 T st2 f2 q ?_
  intro E C H' s' m I' hC hn hf hq
  show wpAny _ X.A (assign (.Name y py) X.env (.ref E)) _ _ _
  obtain ⟨f0, f1, f2, f3, f4, f5⟩ := I2.fpOk (H' := H') hC hf
  refine wpAny_assign_Name (store_ok2 I' hN hi' (.inl hx) (v := .ref E) (u := .ref E) rfl (fun s3 I3 ⟨a, sb, ha⟩ => ?_) (.inr hx))
  have hCa : C ≠ a := by
    rcases ha with z | z
    · rw [z]; exact f1
    · exact (f4 y a z).symm
  refine ⟨m, hn.sameBut sb hCa, fun h' sb' => ?_⟩
  exact ⟨_, H', I3.turned (t' := s3.toks) (it := C) (fun b o hb e => (sb'.2 b hb).trans e) f0 f1 f3 f4 f5, hq⟩
end
theorem comp_range {lo : Int} {n : Nat} {g : TG} {tt : TT} {te : TE} {D : Addr} {σ : St} {H : Hp} {R : Hp → Prop} (Pv : Nat → St → Hp → Prop) (h0 : Pv 0 σ H)
    (hs : ∀ i σ H, i < n → Pv i σ H → g (.int (lo + i)) σ H fun σ2 H2 => tt σ2 H2 fun b H3 => if b = true then te σ2 H3 fun y H4 => ∃ ys, H4 D = some (.lst ys) ∧ ys.length < sizeLine ∧ Pv (i + 1) σ2 (upd H4 D (.lst (ys ++ [y]))) else Pv (i + 1) σ2 H3)
    (hd : ∀ σ H, Pv n σ H → R H) : cLoop (Itr lo n) g tt te D σ H R := by
  refine ⟨fun i m σ H => m = n - i ∧ i ≤ n ∧ Pv i σ H, ⟨n, by simp, Nat.zero_le _, h0⟩, ?_⟩
  rintro i m σ H ⟨rfl, hi, p⟩
  by_cases hlt : i < n
  · refine .inr ⟨hlt, Pv (i + 1), fun σ' H' p' => ⟨n - (i + 1), by omega, rfl, hlt, p'⟩, fun x H' y => ?_⟩
    obtain ⟨e, y⟩ := y
    subst e y
    exact hs i σ _ hlt p
  · have e : i = n := by omega
    subst e
    exact .inl ⟨Nat.le_refl _, hd σ H p⟩
theorem comp_list {K : PySem.W.Frag} {a : Addr} {xs : List V} {g : TG} {tt : TT} {te : TE} {D : Addr} {σ : St} {H : Hp} {R : Hp → Prop} (Pv : Nat → St → Hp → Prop) (h0 : Pv 0 σ H) (hl : ∀ i σ H, i ≤ xs.length → Pv i σ H → SqL K H a xs)
    (hs : ∀ i x σ H, xs[i]? = some x → Pv i σ H → g x σ H fun σ2 H2 => tt σ2 H2 fun b H3 => if b = true then te σ2 H3 fun y H4 => ∃ ys, H4 D = some (.lst ys) ∧ ys.length < sizeLine ∧ Pv (i + 1) σ2 (upd H4 D (.lst (ys ++ [y]))) else Pv (i + 1) σ2 H3)
    (hd : ∀ σ H, Pv xs.length σ H → R H) : cLoop (Itl K a) g tt te D σ H R := by
  refine ⟨fun i m σ H => m = xs.length - i ∧ i ≤ xs.length ∧ Pv i σ H, ⟨xs.length, by simp, Nat.zero_le _, h0⟩, ?_⟩
  rintro i m σ H ⟨rfl, hi, p⟩
  have q := hl i σ H hi p
  by_cases hlt : i < xs.length
  · refine .inr ⟨⟨xs, xs[i], q, by simp [hlt]⟩, Pv (i + 1), fun σ' H' p' => ⟨xs.length - (i + 1), by omega, rfl, hlt, p'⟩, fun x H' y => ?_⟩
    obtain ⟨e, y⟩ := y
    subst e
    exact hs i x σ _ (y xs q) p
  · have e : i = xs.length := by omega
    subst e
    exact .inl ⟨⟨xs, q, Nat.le_refl _⟩, hd σ H p⟩
theorem comp_tup {K : PySem.W.Frag} {a : Addr} {xs : List V} {g : TG} {tt : TT} {te : TE} {D : Addr} {σ : St} {H : Hp} {R : Hp → Prop} (Pv : Nat → St → Hp → Prop) (h0 : Pv 0 σ H) (hl : ∀ i σ H, i ≤ xs.length → Pv i σ H → SqT K H a xs)
    (hs : ∀ i x σ H, xs[i]? = some x → Pv i σ H → g x σ H fun σ2 H2 => tt σ2 H2 fun b H3 => if b = true then te σ2 H3 fun y H4 => ∃ ys, H4 D = some (.lst ys) ∧ ys.length < sizeLine ∧ Pv (i + 1) σ2 (upd H4 D (.lst (ys ++ [y]))) else Pv (i + 1) σ2 H3)
    (hd : ∀ σ H, Pv xs.length σ H → R H) : cLoop (Itt K a) g tt te D σ H R := by
  refine ⟨fun i m σ H => m = xs.length - i ∧ i ≤ xs.length ∧ Pv i σ H, ⟨xs.length, by simp, Nat.zero_le _, h0⟩, ?_⟩
  rintro i m σ H ⟨rfl, hi, p⟩
  have q := hl i σ H hi p
  by_cases hlt : i < xs.length
  · refine .inr ⟨⟨xs, xs[i], q, by simp [hlt]⟩, Pv (i + 1), fun σ' H' p' => ⟨xs.length - (i + 1), by omega, rfl, hlt, p'⟩, fun x H' y => ?_⟩
    obtain ⟨e, y⟩ := y
    subst e
    exact hs i x σ _ (y xs q) p
  · have e : i = xs.length := by omega
    subst e
    exact .inl ⟨⟨xs, q, Nat.le_refl _⟩, hd σ H p⟩
end L2
set_option Elab.async false
set_option linter.all false
set_option maxRecDepth 100000
set_option maxHeartbeats 4000000
namespace L2
open PySem PySem.Spec PyProof.Rows
section
variable {X : Cx}
def CDivB (i j : Int) : Prop := 0 < j ∧ j.natAbs.log2 < 9000
theorem op_fdivB : OpR X (binaryOp .FloorDiv) (rI CDivB fun i j => .int (i / j)) := opI fun i j _ _ _ _ _ hc q => by
  obtain ⟨h0, h1⟩ := hc
  refine floordiv_int (by omega) ?_ (.inl (PyProof.noPylong_of_log2 h1))
  rw [Int.fdiv_eq_ediv_of_nonneg _ (by omega)]
  exact q
theorem call_sumL (hc : X.calm = true) : CallR X (.builtin "sum") (fun xs H Q => ∃ (a : Addr) (ns : List Int), xs = [.ref a] ∧ SqL X.K H a (ns.map V.int) ∧ Q (.int ns.sum) H) := by
  intro pins s σ H xs us Q I r h
  obtain ⟨a, ns, rfl, hq, q⟩ := h
  obtain ⟨u, rfl, ru⟩ := vals1 r
  cases ru
  obtain ⟨its, rv, p, _⟩ := I.list hq
  have hi : IntsAre its ns := intsAre_of rv
  have all := hi.allInts
  obtain ⟨ys, hy⟩ := all.items
  have e : (numsOf its.toArray.toList).sum = ns.sum := by rw [show its.toArray.toList = its from rfl, hi.numsOf]
  have hl := p.isList
  rw [hy] at hl e
  rw [nums_intItems] at e
  refine sum_intListG (I.ok.hd hc) hl fun h' tk t' k => ⟨.int (preSum (numAt ys) ys.size), H, I.kept k, ⟨t', rfl⟩, ?_⟩
  rw [preSum_eq, List.take_of_length_le (by simp)]
  first
    | (rw [e]; exact q)
    | (simp only [e]; exact q)
theorem call_isinst : CallR X (.builtin "isinstance") (fun xs H Q => ∃ (x : V) (t : Value) (T : String) (b : Bool), xs = [x, .ty T] ∧ TyOf X.K H x t ∧ PySem.W.kitOne X.K t (.type T) = some b ∧ Q (.bl b) H) := by
  intro pins s σ H xs us Q I r h
  obtain ⟨x, t, T, b, rfl, ty, e, q⟩ := h
  obtain ⟨u, w', rfl, rx, rT⟩ := vals2 r
  cases (show w' = Value.type T from rT)
  exact isinst_ok I rx ty e fun tk => ⟨.bl b, H, I.tok tk, rfl, q⟩
end
end L2
namespace L2
open PySem PySem.Spec PyProof.Rows
def compCheck (scope esc : Scope) (N own frn : List Str) (frj : List Nat) : Bool :=
  scope.names.all (fun y => y.2 != .cell) && scope.kind == .function && scope.names.all (fun y => y.2 != .local || scope.names.lookup y.1 == some .local)
  && scope.names.all (fun y => y.2 != .free || (esc.names.lookup y.1 == some .cell || esc.names.lookup y.1 == some .free))
  && frj.length == frn.length && (List.range frj.length).all (fun i => (frj[i]?).bind (fun j => N[j]?) == frn[i]?)
  && frn.all (fun x => scope.names.contains (x, NameKind.free) && scope.names.lookup x == some .free)
theorem CompScope.mk' {X : Cx} {scope esc : Scope} {N own frn : List Str} {frj : List Nat} (hs : X.env.scope = esc) (hN : X.N = N) (h : compCheck scope esc N own frn frj = true) : CompScope X scope own frn frj := by
  unfold compCheck at h
  simp only [Bool.and_eq_true, List.all_eq_true, bne_iff_ne, beq_iff_eq, Bool.or_eq_true, List.contains_iff_mem] at h
  obtain ⟨⟨⟨⟨⟨⟨h1, h2⟩, h3⟩, h4⟩, h5⟩, h6⟩, h7⟩ := h
  refine ⟨h1, h2, fun y hy hl => ?_, fun y hy hf => ?_, h5, fun i j e => ?_, fun x hx => h7 x hx⟩
  · rcases h3 y hy with z | z
    · exact absurd hl z
    · exact z
  · rw [hs]
    rcases h4 y hy with z | z
    · exact absurd hf z
    · exact z
  · have hi : i < frj.length := (List.getElem?_eq_some_iff.mp e).1
    have q := h6 i (List.mem_range.mpr hi)
    rw [e] at q
    rw [hN]
    exact q
def KB (d : Addr) (H H' : Hp) : Prop := ∀ b o, H b = some o → b ≠ d → H' b = some o
theorem KB.refl (d : Addr) (H : Hp) : KB d H H := fun _ _ h _ => h
theorem KB.trans {d : Addr} {H H1 H2 : Hp} (a : KB d H H1) (b : KB d H1 H2) : KB d H H2 := fun c o h n => b c o (a c o h n) n
theorem KB.write {d : Addr} {H : Hp} {o : HO} : KB d H (upd H d o) := fun b o h n => by rw [upd_ne n]; exact h
theorem Same.new {H : Hp} {p : Addr} {o : HO} (h : H p = none) : Same H (upd H p o) := fun b u e => by rw [upd_ne (ne_of_none e h)]; exact e
theorem Same.kbn {d : Addr} {H H1 H2 : Hp} (s : Same H H1) (h : H d = none) (k : KB d H1 H2) : Same H H2 := fun b o e => k b o (s b o e) (ne_of_none e h)
theorem KB.seq {K : PySem.W.Frag} {d : Addr} {H H' : Hp} {a : Addr} {xs : List V} (e : KB d H H') (n : a ≠ d) (h : SqL K H a xs) : SqL K H' a xs := by
  rcases h with (h | ⟨o, h⟩) | h
  · exact .inl (.inl (e _ _ h n))
  · exact .inl (.inr ⟨o, e _ _ h n⟩)
  · exact .inr h
theorem Same.seqT {K : PySem.W.Frag} {H H' : Hp} {a : Addr} {xs : List V} (e : Same H H') (h : SqT K H a xs) : SqT K H' a xs := by
  rcases h with (h | ⟨o, h⟩) | h
  · exact .inl (.inl (e _ _ h))
  · exact .inl (.inr ⟨o, e _ _ h⟩)
  · exact .inr h
def KTu (H H' : Hp) : Prop := ∀ b xs, H b = some (.tup xs) → H' b = some (.tup xs)
theorem KTu.trans {H H1 H2 : Hp} (a : KTu H H1) (b : KTu H1 H2) : KTu H H2 := fun c o h => b c o (a c o h)
theorem Same.kt {H H' : Hp} (s : Same H H') : KTu H H' := fun b xs h => s b _ h
theorem KTu.lst {H : Hp} {d : Addr} {xs : List V} {o : HO} (h : H d = some (.lst xs)) : KTu H (upd H d o) := fun b ys e => by
  rw [upd_ne (ne_of e h (fun z => nomatch z))]; exact e
def Tups (H : Hp) (ps : List Addr) (ls : List (List Int)) : Prop := Paired (fun p (l : List Int) => H p = some (.tup (l.map V.int))) ps ls
theorem Tups.keep {H H' : Hp} {ps : List Addr} {ls : List (List Int)} (t : Tups H ps ls) (k : KTu H H') : Tups H' ps ls := Paired.mapP t fun _ _ h => k _ _ h
theorem Tups.get {H : Hp} : ∀ {ps : List Addr} {ls : List (List Int)} {i : Nat} {p : Addr}, Tups H ps ls → ps[i]? = some p → ∃ l, ls[i]? = some l ∧ H p = some (.tup (l.map V.int))
  | _, _, _, _, .nil, e => by simp at e
  | _, _, 0, _, .cons r _, e => by simp at e; subst e; exact ⟨_, rfl, r⟩
  | _, _, i + 1, p, .cons _ t, e => by
    obtain ⟨u, h1, h2⟩ := Tups.get (i := i) (p := p) t (by simpa using e)
    exact ⟨u, by simpa using h1, h2⟩
theorem paired_append {α β : Type} {F : α → β → Prop} : ∀ {xs ys : List α} {us ws : List β}, Paired F xs us → Paired F ys ws → Paired F (xs ++ ys) (us ++ ws)
  | _, _, _, _, .nil, s => s
  | _, _, _, _, .cons r t, s => .cons r (paired_append t s)
end L2
namespace L2
open PySem
theorem bt_len : bootBuiltins "len" = some (.builtin "len") := by decide +kernel
theorem bt_abs : bootBuiltins "abs" = some (.builtin "abs") := by decide +kernel
theorem bt_sum : bootBuiltins "sum" = some (.builtin "sum") := by decide +kernel
theorem bt_min : bootBuiltins "min" = some (.builtin "min") := by decide +kernel
theorem bt_max : bootBuiltins "max" = some (.builtin "max") := by decide +kernel
theorem bt_isinstance : bootBuiltins "isinstance" = some (.builtin "isinstance") := by decide +kernel
theorem bt_sorted : bootBuiltins "sorted" = some (.builtin "sorted") := by decide +kernel
theorem bt_list : bootBuiltins "list" = some (.type "list") := by decide +kernel
theorem bt_tuple : bootBuiltins "tuple" = some (.type "tuple") := by decide +kernel
theorem bt_bool : bootBuiltins "bool" = some (.type "bool") := by decide +kernel
end L2
namespace L2
open PySem PySem.Spec PyProof.Rows
def rLen (K : PySem.W.Frag) : List V → Hp → VK → Prop := fun xs H Q => ∃ x n, xs = [x] ∧ LenV K x H n ∧ Q (.int n) H
def rSum (K : PySem.W.Frag) : List V → Hp → VK → Prop := fun xs H Q => ∃ (a : Addr) (ns : List Int), xs = [.ref a] ∧ SqL K H a (ns.map V.int) ∧ Q (.int ns.sum) H
def rIsi (K : PySem.W.Frag) : List V → Hp → VK → Prop := fun xs H Q => ∃ (x : V) (t : Value) (T : String) (b : Bool), xs = [x, .ty T] ∧ TyOf K H x t ∧ PySem.W.kitOne K t (.type T) = some b ∧ Q (.bl b) H
section
variable {X : Cx}
theorem call_lenK (K : PySem.W.Frag) (hK : X.K = K := by rfl) : CallR X (.builtin "len") (rLen K) := by subst hK; exact call_len
theorem call_sumK (K : PySem.W.Frag) (hc : X.calm = true := by rfl) (hK : X.K = K := by rfl) : CallR X (.builtin "sum") (rSum K) := by subst hK; exact call_sumL hc
theorem call_isiK (K : PySem.W.Frag) (hK : X.K = K := by rfl) : CallR X (.builtin "isinstance") (rIsi K) := by subst hK; exact call_isinst
theorem ix_listK (K : PySem.W.Frag) (hK : X.K = K := by rfl) : IxR X (rIxL K) := by subst hK; exact ix_list
theorem ix_tupK (K : PySem.W.Frag) (hK : X.K = K := by rfl) : IxR X (rIxT K) := by subst hK; exact ix_tup
theorem sl_listK (K : PySem.W.Frag) (hK : X.K = K := by rfl) : SlR X (rSlL K) := by subst hK; exact sl_list
theorem op_inK (K : PySem.W.Frag) (hK : X.K = K := by rfl) : OpR X (compareOp .In) (rIn K false) := by subst hK; exact op_in_seq
def CPos (_ j : Int) : Prop := 0 < j
theorem cpos {i j : Int} (h : 0 < j) : CPos i j := h
theorem op_modP : OpR X (binaryOp .Mod) (rI CPos fun i j => .int (i % j)) := op_mod
end
end L2
namespace L2
end L2
set_option Elab.async false
set_option linter.all false
set_option maxRecDepth 100000
set_option maxHeartbeats 4000000
namespace L2
open PySem PySem.Spec PyProof.Rows
inductive Dt where
  | non | bl (b : Bool) | int (i : Int) | str (x : Str) | tup (xs : List Dt) | lst (xs : List Dt)
mutual
def Dt.beq : Dt → Dt → Bool
  | .non, .non => true
  | .bl a, .bl b => a == b
  | .bl a, .int b => (if a then 1 else 0) == b
  | .int a, .bl b => a == (if b then 1 else 0)
  | .int a, .int b => a == b
  | .str a, .str b => a == b
  | .tup xs, .tup ys => Dt.beqs xs ys
  | .lst xs, .lst ys => Dt.beqs xs ys
  | _, _ => false
def Dt.beqs : List Dt → List Dt → Bool
  | [], [] => true
  | x :: xs, y :: ys => x.beq y && Dt.beqs xs ys
  | _, _ => false
end
mutual
def Dt.dep : Dt → Nat
  | .tup xs => Dt.deps xs + 1
  | .lst xs => Dt.deps xs + 1
  | _ => 0
def Dt.deps : List Dt → Nat
  | [] => 0
  | x :: xs => max x.dep (Dt.deps xs)
end
mutual
def DatAt (K : PySem.W.Frag) (H : Hp) : V → Dt → Prop
  | x, .non => x = .non
  | x, .bl b => x = .bl b
  | x, .int i => x = .int i
  | x, .str z => x = .str z
  | x, .tup ds => ∃ a xs, x = .ref a ∧ SqT K H a xs ∧ DatsAt K H xs ds
  | x, .lst ds => ∃ a xs, x = .ref a ∧ SqL K H a xs ∧ DatsAt K H xs ds
def DatsAt (K : PySem.W.Frag) (H : Hp) : List V → List Dt → Prop
  | [], [] => True
  | x :: xs, d :: ds => DatAt K H x d ∧ DatsAt K H xs ds
  | _, _ => False
end
theorem Dt.beq_refl (d : Dt) : d.beq d = true := by
  induction d using Dt.rec (motive_2 := fun xs => Dt.beqs xs xs = true) with
  | non => simp [Dt.beq]
  | bl b => simp [Dt.beq]
  | int b => simp [Dt.beq]
  | str b => simp [Dt.beq]
  | tup xs ih => simp [Dt.beq, ih]
  | lst xs ih => simp [Dt.beq, ih]
  | nil => simp [Dt.beqs]
  | cons x xs h1 h2 => simp [Dt.beqs, h1, h2]
theorem DatsAt.length {K : PySem.W.Frag} {H : Hp} : ∀ {xs : List V} {ds : List Dt}, DatsAt K H xs ds → xs.length = ds.length
  | [], [], _ => rfl
  | [], _ :: _, h => by simp [DatsAt] at h
  | _ :: _, [], h => by simp [DatsAt] at h
  | x :: xs, d :: ds, h => by
    rw [DatsAt] at h
    rw [List.length_cons, List.length_cons, DatsAt.length h.2]
theorem DatsAt.get {K : PySem.W.Frag} {H : Hp} : ∀ {xs : List V} {ds : List Dt} {i : Nat} {x : V}, DatsAt K H xs ds → xs[i]? = some x → ∃ d, ds[i]? = some d ∧ DatAt K H x d
  | [], _, _, _, _, e => by simp at e
  | _ :: _, [], _, _, h, _ => by simp [DatsAt] at h
  | x :: xs, d :: ds, 0, y, h, e => by
    rw [DatsAt] at h
    simp at e; subst e
    exact ⟨d, rfl, h.1⟩
  | x :: xs, d :: ds, i + 1, y, h, e => by
    rw [DatsAt] at h
    obtain ⟨d', h1, h2⟩ := DatsAt.get (i := i) (x := y) h.2 (by simpa using e)
    exact ⟨d', by simpa using h1, h2⟩
theorem Dt.deps_mem {d : Dt} : ∀ {ds : List Dt}, d ∈ ds → d.dep ≤ Dt.deps ds
  | [], h => by cases h
  | x :: xs, h => by
    rw [Dt.deps]
    rcases List.mem_cons.mp h with rfl | h
    · exact Nat.le_max_left ..
    · exact Nat.le_trans (Dt.deps_mem h) (Nat.le_max_right ..)
def beqAt (xs ys : List Dt) (j : Nat) : Bool := match xs[j]?, ys[j]? with
  | some x, some y => x.beq y
  | _, _ => false
theorem all_range_succ (n : Nat) (e : Nat → Bool) : (List.range (n + 1)).all e = (e 0 && (List.range n).all fun j => e (j + 1)) := by
  rw [List.range_succ_eq_map, List.all_cons, List.all_map]; rfl
theorem beqs_all : ∀ (xs ys : List Dt), xs.length = ys.length → (List.range xs.length).all (beqAt xs ys) = Dt.beqs xs ys
  | [], [], _ => by simp [Dt.beqs]
  | x :: xs, y :: ys, h => by
    have h' : xs.length = ys.length := by simpa using h
    rw [List.length_cons, all_range_succ, Dt.beqs, ← beqs_all xs ys h']
    rfl
theorem beqs_len : ∀ (xs ys : List Dt), xs.length ≠ ys.length → Dt.beqs xs ys = false
  | [], [], h => absurd rfl h
  | [], _ :: _, _ => by simp [Dt.beqs]
  | _ :: _, [], _ => by simp [Dt.beqs]
  | x :: xs, y :: ys, h => by
    have h' : xs.length ≠ ys.length := fun z => h (by simp [z])
    rw [Dt.beqs, beqs_len xs ys h', Bool.and_false]
section
variable {X : Cx} {pins : List (Addr × Obj)} {σ : St} {H : Hp} {s : Shared}
theorem list_not_tuple {a : Addr} {xs ys : List V} (I : Inv X pins σ H s) (h1 : SqL X.K H a xs) (h2 : SqT X.K H a ys) : False := by
  obtain ⟨its, _, p, _⟩ := I.list h1
  obtain ⟨its2, _, q, _⟩ := I.tuple h2
  exact SeqAt.ne_of_list_tuple p.isList (show s.heap.IsTuple a its2.toArray from q) rfl
theorem dat_inj (I : Inv X pins σ H s) (d : Dt) : ∀ (x : V) (d' : Dt), DatAt X.K H x d → DatAt X.K H x d' → d = d' := by
  induction d using Dt.rec (motive_2 := fun ds => ∀ (xs : List V) (ds' : List Dt), DatsAt X.K H xs ds → DatsAt X.K H xs ds' → ds = ds') with
  | non => intro x d' h h'; cases d' <;> simp_all [DatAt]
  | bl b => intro x d' h h'; cases d' <;> simp_all [DatAt]
  | int b => intro x d' h h'; cases d' <;> simp_all [DatAt]
  | str b => intro x d' h h'; cases d' <;> simp_all [DatAt]
  | tup ds ih =>
    intro x d' h h'
    rw [DatAt] at h
    obtain ⟨a, xs, rfl, hq, hd⟩ := h
    cases d' with
    | tup ds' =>
      rw [DatAt] at h'
      obtain ⟨a', xs', e, hq', hd'⟩ := h'
      cases e
      rw [I.tuple_inj hq' hq] at hd'
      rw [ih xs ds' hd hd']
    | lst ds' =>
      rw [DatAt] at h'
      obtain ⟨a', xs', e, hq', hd'⟩ := h'
      cases e
      exact (list_not_tuple I hq' hq).elim
    | _ => simp [DatAt] at h'
  | lst ds ih =>
    intro x d' h h'
    rw [DatAt] at h
    obtain ⟨a, xs, rfl, hq, hd⟩ := h
    cases d' with
    | lst ds' =>
      rw [DatAt] at h'
      obtain ⟨a', xs', e, hq', hd'⟩ := h'
      cases e
      rw [I.list_inj hq' hq] at hd'
      rw [ih xs ds' hd hd']
    | tup ds' =>
      rw [DatAt] at h'
      obtain ⟨a', xs', e, hq', hd'⟩ := h'
      cases e
      exact (list_not_tuple I hq hq').elim
    | _ => simp [DatAt] at h'
  | nil =>
    rename_i xs ds' h h'
    cases xs with
    | nil => cases ds' with
      | nil => rfl
      | cons _ _ => simp [DatsAt] at h'
    | cons _ _ => simp [DatsAt] at h
  | cons d ds h1 h2 =>
    rename_i xs ds' h h'
    cases xs with
    | nil => simp [DatsAt] at h
    | cons x xs => cases ds' with
      | nil => simp [DatsAt] at h'
      | cons d' ds' =>
        rw [DatsAt] at h h'
        rw [h1 x d' h.1 h'.1, h2 xs ds' h.2 h'.2]
theorem items_eq {A : Around} {xs ys : List V} {ds ds' : List Dt} {its its2 : List Value} (r1 : Vals xs its) (r2 : Vals ys its2) (h1 : DatsAt X.K H xs ds) (h2 : DatsAt X.K H ys ds')
    (ih : ∀ d ∈ ds, ∀ (d' : Dt) (x y : V) (u v : Value), DatAt X.K H x d → DatAt X.K H y d' → RelV x u → RelV y v → SeqAt.EqAt A s u v (d.beq d')) :
    ∀ j (a : j < its.toArray.size) (b : j < its2.toArray.size), SeqAt.EqAt A s its.toArray[j] its2.toArray[j] (beqAt ds ds' j) := fun j a b => by
  have a' : j < its.length := by simpa using a
  have b' : j < its2.length := by simpa using b
  have la := r1.length
  have lb := r2.length
  have ex : xs[j]? = some (xs[j]'(by omega)) := List.getElem?_eq_getElem (by omega)
  have ey : ys[j]? = some (ys[j]'(by omega)) := List.getElem?_eq_getElem (by omega)
  obtain ⟨u, eu, ru⟩ := r1.get ex
  obtain ⟨v, ev, rv⟩ := r2.get ey
  obtain ⟨d, ed, hd⟩ := h1.get ex
  obtain ⟨d', ed', hd'⟩ := h2.get ey
  have e1 : its.toArray[j] = u := by
    rw [List.getElem?_eq_getElem a'] at eu
    simpa using Option.some.inj eu
  have e2 : its2.toArray[j] = v := by
    rw [List.getElem?_eq_getElem b'] at ev
    simpa using Option.some.inj ev
  rw [e1, e2]
  have e3 : beqAt ds ds' j = d.beq d' := by unfold beqAt; rw [ed, ed']
  rw [e3]
  exact ih d (List.mem_of_getElem? ed) d' _ _ u v hd hd' ru rv
theorem rc_lists {A : Around} {a b : Addr} {xs ys : List V} {ds ds' : List Dt} (I : Inv X pins σ H s) (q1 : SqL X.K H a xs) (q2 : SqL X.K H b ys) (h1 : DatsAt X.K H xs ds) (h2 : DatsAt X.K H ys ds') (hu : A.units < cLine)
    (ih : ∀ d ∈ ds, ∀ (d' : Dt) (x y : V) (u v : Value), DatAt X.K H x d → DatAt X.K H y d' → RelV x u → RelV y v → SeqAt.EqAt A.in1 s u v (d.beq d')) : SeqAt.RcAt A s (.ref a) (.ref b) (Dt.beqs ds ds') := by
  obtain ⟨its, r1, p1, _⟩ := I.list q1
  obtain ⟨its2, r2, p2, _⟩ := I.list q2
  have l1 := r1.length
  have l2 := r2.length
  have l3 := h1.length
  have l4 := h2.length
  by_cases hl : ds.length = ds'.length
  · have := SeqAt.RcAt.lists p1.isList p2.isList (by simp; omega) hu (items_eq r1 r2 h1 h2 ih)
    rw [show its.toArray.size = ds.length by simp; omega, beqs_all ds ds' hl] at this
    exact this
  · rw [beqs_len ds ds' hl]
    exact SeqAt.RcAt.lists_lengths p1.isList p2.isList (by simp; omega) hu
theorem rc_tuples {A : Around} {a b : Addr} {xs ys : List V} {ds ds' : List Dt} (I : Inv X pins σ H s) (q1 : SqT X.K H a xs) (q2 : SqT X.K H b ys) (h1 : DatsAt X.K H xs ds) (h2 : DatsAt X.K H ys ds') (hu : A.units < cLine)
    (ih : ∀ d ∈ ds, ∀ (d' : Dt) (x y : V) (u v : Value), DatAt X.K H x d → DatAt X.K H y d' → RelV x u → RelV y v → SeqAt.EqAt A.in1 s u v (d.beq d')) : SeqAt.RcAt A s (.ref a) (.ref b) (Dt.beqs ds ds') := by
  obtain ⟨its, r1, p1, _⟩ := I.tuple q1
  obtain ⟨its2, r2, p2, _⟩ := I.tuple q2
  have l1 := r1.length
  have l2 := r2.length
  have l3 := h1.length
  have l4 := h2.length
  have := SeqAt.RcAt.tuples (show s.heap.IsTuple a its.toArray from p1) (show s.heap.IsTuple b its2.toArray from p2) hu (items_eq r1 r2 h1 h2 ih)
  by_cases hl : ds.length = ds'.length
  · rw [show min its.toArray.size its2.toArray.size = ds.length by simp; omega, beqs_all ds ds' hl, show (its.toArray.size == its2.toArray.size) = true by simp; omega, Bool.and_true] at this
    exact this
  · rw [show (its.toArray.size == its2.toArray.size) = false by simp; omega, Bool.and_false] at this
    rw [beqs_len ds ds' hl]
    exact this
theorem dat_eqAt (I : Inv X pins σ H s) (d : Dt) : ∀ (A : Around) (d' : Dt) (x y : V) (u v : Value), A.units + d.dep < cLine → DatAt X.K H x d → DatAt X.K H y d' → RelV x u → RelV y v → SeqAt.EqAt A s u v (d.beq d') := by
  have flat : ∀ {A : Around} {d d' : Dt} {x y : V} {u v : Value}, flatV x = true → flatV y = true → eqV x y = d.beq d' → RelV x u → RelV y v → SeqAt.EqAt A s u v (d.beq d') := fun fx fy e ru rv => e ▸ eqAt_V ru rv fx fy
  have lOf : ∀ {a : Addr} {xs : List V}, SqL X.K H a xs → ∃ its : Array Value, s.heap.IsList a its := fun q => let ⟨its, _, p, _⟩ := I.list q; ⟨_, p.isList⟩
  have tOf : ∀ {a : Addr} {xs : List V}, SqT X.K H a xs → ∃ its : Array Value, s.heap.IsTuple a its := fun q => let ⟨its, _, p, _⟩ := I.tuple q; ⟨_, p⟩
  have refs : ∀ {A : Around} {a b : Addr} {d d' : Dt}, DatAt X.K H (.ref a) d → DatAt X.K H (.ref b) d' → SeqAt.RcAt A s (.ref a) (.ref b) (d.beq d') → SeqAt.EqAt A s (.ref a) (.ref b) (d.beq d') := by
    intro A a b d d' h h' r
    by_cases e : a = b
    · subst e
      rw [← dat_inj I d _ _ h h', Dt.beq_refl]
      exact SeqAt.EqAt.same _
    · exact SeqAt.EqAt.of_refs e r
  induction d using Dt.rec (motive_2 := fun ds => ∀ d ∈ ds, ∀ (A : Around) (d' : Dt) (x y : V) (u v : Value), A.units + d.dep < cLine → DatAt X.K H x d → DatAt X.K H y d' → RelV x u → RelV y v → SeqAt.EqAt A s u v (d.beq d')) with
  | non =>
    intro A d' x y u v hu h h' ru rv
    rw [DatAt] at h
    subst h
    have hu' : A.units < cLine := by omega
    cases d' with
    | tup ds' =>
      rw [DatAt] at h'; obtain ⟨b, ys, rfl, q, _⟩ := h'
      cases ru; cases rv
      obtain ⟨its, p⟩ := tOf q
      exact SeqAt.EqAt.none_tuple p hu'
    | lst ds' =>
      rw [DatAt] at h'; obtain ⟨b, ys, rfl, q, _⟩ := h'
      cases ru; cases rv
      obtain ⟨its, p⟩ := lOf q
      exact SeqAt.EqAt.none_list p hu'
    | _ => rw [DatAt] at h'; subst h'; exact flat rfl rfl (by simp [Dt.beq, eqV]) ru rv
  | bl b0 =>
    intro A d' x y u v hu h h' ru rv
    rw [DatAt] at h
    subst h
    have hu' : A.units < cLine := by omega
    cases d' with
    | tup ds' =>
      rw [DatAt] at h'; obtain ⟨b, ys, rfl, q, _⟩ := h'
      cases ru; cases rv
      obtain ⟨its, p⟩ := tOf q
      exact SeqAt.EqAt.bool_tuple _ p hu'
    | lst ds' =>
      rw [DatAt] at h'; obtain ⟨b, ys, rfl, q, _⟩ := h'
      cases ru; cases rv
      obtain ⟨its, p⟩ := lOf q
      exact SeqAt.EqAt.bool_list _ p hu'
    | _ => rw [DatAt] at h'; subst h'; exact flat rfl rfl (by simp [Dt.beq, eqV]) ru rv
  | int i0 =>
    intro A d' x y u v hu h h' ru rv
    rw [DatAt] at h
    subst h
    have hu' : A.units < cLine := by omega
    cases d' with
    | tup ds' =>
      rw [DatAt] at h'; obtain ⟨b, ys, rfl, q, _⟩ := h'
      obtain ⟨t, rfl⟩ := ru; cases rv
      obtain ⟨its, p⟩ := tOf q
      exact SeqAt.EqAt.int_tuple _ _ p hu'
    | lst ds' =>
      rw [DatAt] at h'; obtain ⟨b, ys, rfl, q, _⟩ := h'
      obtain ⟨t, rfl⟩ := ru; cases rv
      obtain ⟨its, p⟩ := lOf q
      exact SeqAt.EqAt.int_list _ _ p hu'
    | _ => rw [DatAt] at h'; subst h'; exact flat rfl rfl (by simp [Dt.beq, eqV]) ru rv
  | str z0 =>
    intro A d' x y u v hu h h' ru rv
    rw [DatAt] at h
    subst h
    have hu' : A.units < cLine := by omega
    cases d' with
    | tup ds' =>
      rw [DatAt] at h'; obtain ⟨b, ys, rfl, q, _⟩ := h'
      obtain ⟨t, rfl⟩ := ru; cases rv
      obtain ⟨its, p⟩ := tOf q
      exact SeqAt.EqAt.str_tuple _ _ p hu'
    | lst ds' =>
      rw [DatAt] at h'; obtain ⟨b, ys, rfl, q, _⟩ := h'
      obtain ⟨t, rfl⟩ := ru; cases rv
      obtain ⟨its, p⟩ := lOf q
      exact SeqAt.EqAt.str_list _ _ p hu'
    | _ => rw [DatAt] at h'; subst h'; exact flat rfl rfl (by simp [Dt.beq, eqV]) ru rv
  | tup ds ih =>
    intro A d' x y u v hu h h' ru rv
    have hD := h
    have hD' := h'
    rw [DatAt] at h
    obtain ⟨a, xs, rfl, q, hd⟩ := h
    cases ru
    obtain ⟨its, p⟩ := tOf q
    have hu' : A.units < cLine := by omega
    cases d' with
    | non => rw [DatAt] at h'; subst h'; cases rv; exact SeqAt.EqAt.tuple_none p hu'
    | bl b => rw [DatAt] at h'; subst h'; cases rv; exact SeqAt.EqAt.tuple_bool _ p hu'
    | int b => rw [DatAt] at h'; subst h'; obtain ⟨t, rfl⟩ := rv; exact SeqAt.EqAt.tuple_int _ _ p hu'
    | str b => rw [DatAt] at h'; subst h'; obtain ⟨t, rfl⟩ := rv; exact SeqAt.EqAt.tuple_str _ _ p hu'
    | lst ds' =>
      rw [DatAt] at h'; obtain ⟨b, ys, rfl, q', _⟩ := h'
      cases rv
      obtain ⟨its2, p2⟩ := lOf q'
      exact SeqAt.EqAt.tuple_list p p2 hu'
    | tup ds' =>
      rw [DatAt] at h'; obtain ⟨b, ys, rfl, q', hd'⟩ := h'
      cases rv
      refine refs hD hD' ?_
      have := rc_tuples (A := A) I q q' hd hd' hu' fun d hm d' x y u v h1 h2 r1 r2 => ih d hm A.in1 d' x y u v (by
        have := Dt.deps_mem hm
        rw [Dt.dep] at hu
        show A.units + 1 + d.dep < cLine
        omega) h1 h2 r1 r2
      simpa [Dt.beq] using this
  | lst ds ih =>
    intro A d' x y u v hu h h' ru rv
    have hD := h
    have hD' := h'
    rw [DatAt] at h
    obtain ⟨a, xs, rfl, q, hd⟩ := h
    cases ru
    obtain ⟨its, p⟩ := lOf q
    have hu' : A.units < cLine := by omega
    cases d' with
    | non => rw [DatAt] at h'; subst h'; cases rv; exact SeqAt.EqAt.list_none p hu'
    | bl b => rw [DatAt] at h'; subst h'; cases rv; exact SeqAt.EqAt.list_bool _ p hu'
    | int b => rw [DatAt] at h'; subst h'; obtain ⟨t, rfl⟩ := rv; exact SeqAt.EqAt.list_int _ _ p hu'
    | str b => rw [DatAt] at h'; subst h'; obtain ⟨t, rfl⟩ := rv; exact SeqAt.EqAt.list_str _ _ p hu'
    | tup ds' =>
      rw [DatAt] at h'; obtain ⟨b, ys, rfl, q', _⟩ := h'
      cases rv
      obtain ⟨its2, p2⟩ := tOf q'
      exact SeqAt.EqAt.list_tuple p p2 hu'
    | lst ds' =>
      rw [DatAt] at h'; obtain ⟨b, ys, rfl, q', hd'⟩ := h'
      cases rv
      refine refs hD hD' ?_
      have := rc_lists (A := A) I q q' hd hd' hu' fun d hm d' x y u v h1 h2 r1 r2 => ih d hm A.in1 d' x y u v (by
        have := Dt.deps_mem hm
        rw [Dt.dep] at hu
        show A.units + 1 + d.dep < cLine
        omega) h1 h2 r1 r2
      simpa [Dt.beq] using this
  | nil =>
    rename_i d hd A d' x y u v a1 a2 a3 a4 a5
    cases hd
  | cons d ds h1 h2 =>
    rename_i d0 hd A d' x y u v a1 a2 a3 a4 a5
    rcases List.mem_cons.mp hd with e | hd
    · subst e; exact h1 A d' x y u v a1 a2 a3 a4 a5
    · exact h2 d0 hd A d' x y u v a1 a2 a3 a4 a5
def Dt.isSq : Dt → Bool
  | .tup _ => true
  | .lst _ => true
  | _ => false
def rEqD (K : PySem.W.Frag) (neg : Bool) : R2 := fun x y H Q => ∃ d d' : Dt, DatAt K H x d ∧ DatAt K H y d' ∧ d.isSq = true ∧ d'.isSq = true ∧ d.dep ≤ 40 ∧ Q (.bl (if neg then !d.beq d' else d.beq d')) H
theorem op_neD (K : PySem.W.Frag) (hu : X.A.units + 64 < cLine) (hK : X.K = K := by rfl) : OpR X (compareOp .NotEq) (fun x y H Q => rEqD K true x y H Q ∧ ∃ d d' : Dt, DatAt K H x d ∧ DatAt K H y d' ∧ ((∃ ds ds', d = .tup ds ∧ d' = .tup ds') ∨ ∃ ds ds', d = .lst ds ∧ d' = .lst ds')) := by
  subst hK
  intro pins s σ H x y v u Q I rx ry h
  obtain ⟨⟨d, d', h, h', sq, sq', hd, q⟩, e, e', g, g', hk⟩ := h
  have e1 := dat_inj I d x e h g
  have e2 := dat_inj I d' y e' h' g'
  subst e1 e2
  have hA : ∀ e : Dt, e.dep ≤ 40 → X.A.in1.units + e.dep < cLine := fun e he => by show X.A.units + 1 + e.dep < cLine; omega
  have hu' : X.A.units < cLine := by omega
  rcases hk with ⟨ds, ds', rfl, rfl⟩ | ⟨ds, ds', rfl, rfl⟩
  · rw [DatAt] at h h'
    obtain ⟨a, xs, rfl, q1, h1⟩ := h
    obtain ⟨b, ys, rfl, q2, h2⟩ := h'
    cases rx
    cases ry
    have ih : ∀ d ∈ ds, ∀ (d' : Dt) (x y : V) (u v : Value), DatAt X.K H x d → DatAt X.K H y d' → RelV x u → RelV y v → SeqAt.EqAt X.A.in1 s u v (d.beq d') := fun d hm d' x y u v h1 h2 r1 r2 =>
      dat_eqAt I d X.A.in1 d' x y u v (hA d (by have := Dt.deps_mem hm; rw [Dt.dep] at hd; omega)) h1 h2 r1 r2
    obtain ⟨its, r1, p1, _⟩ := I.tuple q1
    obtain ⟨its2, r2, p2, _⟩ := I.tuple q2
    have l1 := r1.length
    have l2 := r2.length
    have l3 := h1.length
    have l4 := h2.length
    have z := SeqAt.RcNeAt.tuples (show s.heap.IsTuple a its.toArray from p1) (show s.heap.IsTuple b its2.toArray from p2) hu' (items_eq r1 r2 h1 h2 ih)
    have fin : SeqAt.RcNeAt X.A s (.ref a) (.ref b) (!Dt.beqs ds ds') := by
      by_cases hl : ds.length = ds'.length
      · rw [show min its.toArray.size its2.toArray.size = ds.length by simp; omega, beqs_all ds ds' hl, show (its.toArray.size == its2.toArray.size) = true by simp; omega, Bool.and_true] at z
        exact z
      · rw [show (its.toArray.size == its2.toArray.size) = false by simp; omega, Bool.and_false] at z
        rw [beqs_len ds ds' hl]
        exact z
    exact fin _ _ _ _ ⟨.bl _, H, I, rfl, by simpa [Dt.beq] using q⟩
  · rw [DatAt] at h h'
    obtain ⟨a, xs, rfl, q1, h1⟩ := h
    obtain ⟨b, ys, rfl, q2, h2⟩ := h'
    cases rx
    cases ry
    have ih : ∀ d ∈ ds, ∀ (d' : Dt) (x y : V) (u v : Value), DatAt X.K H x d → DatAt X.K H y d' → RelV x u → RelV y v → SeqAt.EqAt X.A.in1 s u v (d.beq d') := fun d hm d' x y u v h1 h2 r1 r2 =>
      dat_eqAt I d X.A.in1 d' x y u v (hA d (by have := Dt.deps_mem hm; rw [Dt.dep] at hd; omega)) h1 h2 r1 r2
    obtain ⟨its, r1, p1, _⟩ := I.list q1
    obtain ⟨its2, r2, p2, _⟩ := I.list q2
    have l1 := r1.length
    have l2 := r2.length
    have l3 := h1.length
    have l4 := h2.length
    have fin : SeqAt.RcNeAt X.A s (.ref a) (.ref b) (!Dt.beqs ds ds') := by
      by_cases hl : ds.length = ds'.length
      · have z := SeqAt.RcNeAt.lists p1.isList p2.isList (by simp; omega) hu' (items_eq r1 r2 h1 h2 ih)
        rw [show its.toArray.size = ds.length by simp; omega, beqs_all ds ds' hl] at z
        exact z
      · rw [beqs_len ds ds' hl]
        exact SeqAt.RcNeAt.lists_lengths p1.isList p2.isList (by simp; omega) hu'
    exact fin _ _ _ _ ⟨.bl _, H, I, rfl, by simpa [Dt.beq] using q⟩
end
theorem dats_ints {K : PySem.W.Frag} {H : Hp} : ∀ (ns : List Int), DatsAt K H (ns.map V.int) (ns.map Dt.int)
  | [] => by simp [DatsAt]
  | n :: ns => by rw [List.map_cons, List.map_cons, DatsAt]; exact ⟨by rw [DatAt], dats_ints ns⟩
theorem deps_ints : ∀ (ns : List Int), Dt.deps (ns.map Dt.int) = 0
  | [] => by simp [Dt.deps]
  | n :: ns => by rw [List.map_cons, Dt.deps, deps_ints ns]; simp [Dt.dep]
end L2
namespace L2
open PySem PySem.Spec PyProof.Rows
section
variable {X : Cx}
def rList (K : PySem.W.Frag) : List V → Hp → VK → Prop := fun xs H Q => ∃ (p : Addr) (ys : List V), xs = [.ref p] ∧ (SqL K H p ys ∨ SqT K H p ys) ∧ ∀ l, H l = none → Q (.ref l) (upd H l (.lst ys))
theorem call_listK (K : PySem.W.Frag) (hK : X.K = K := by rfl) : CallR X (.type "list") (rList K) := by subst hK; exact call_list_of
def rTuple (K : PySem.W.Frag) : List V → Hp → VK → Prop := fun xs H Q => ∃ (p : Addr) (ys : List V), xs = [.ref p] ∧ ((SqL K H p ys ∧ ∀ l, H l = none → Q (.ref l) (upd H l (.tup ys))) ∨ (SqT K H p ys ∧ Q (.ref p) H))
theorem call_tupleK (K : PySem.W.Frag) (hK : X.K = K := by rfl) : CallR X (.type "tuple") (rTuple K) := by subst hK; exact call_tuple_of
def Deck (H : Hp) (d : Addr) : Prop := ∃ ms : List Int, H d = some (.lst (ms.map V.int)) ∧ ms ≠ [] ∧ ∀ m ∈ ms, 0 ≤ m
theorem Deck.same {H H' : Hp} {d : Addr} (h : Deck H d) (s : Same H H') : Deck H' d := let ⟨ms, a, b, c⟩ := h; ⟨ms, s _ _ a, b, c⟩
theorem Deck.is {H : Hp} {d : Addr} (h : Deck H d) : ∃ xs, H d = some (.lst xs) := let ⟨ms, a, _⟩ := h; ⟨_, a⟩
end
end L2
namespace L2
open PySem
theorem intItem {ns : List Int} {i : Nat} {x : V} (h : (ns.map V.int)[i]? = some x) : ∃ f, x = .int f ∧ ns[i]? = some f := by
  rw [List.getElem?_map] at h
  cases e : ns[i]? with
  | none => rw [e] at h; cases h
  | some f => rw [e] at h; exact ⟨f, (Option.some.inj h).symm, rfl⟩
end L2
set_option Elab.async false
set_option linter.all false
set_option maxRecDepth 100000
set_option maxHeartbeats 4000000
namespace L2
open PySem PySem.Spec PyProof.Rows
theorem strsAre_of {ys : List Str} : ∀ {us : List Value}, Vals (ys.map V.str) us → StrsAre us ys := by
  induction ys with
  | nil => intro us r; cases r; exact .nil
  | cons y ys ih =>
    intro us r
    rw [List.map_cons] at r
    cases r with
    | cons a b =>
      obtain ⟨t, rfl⟩ := a
      exact .cons y t (ih b)
theorem vals_strs : ∀ {us : List Value} {ys : List Str}, StrsAre us ys → Vals (ys.map V.str) us
  | _, _, .nil => .nil
  | _, _, .cons y t r => .cons ⟨t, rfl⟩ (vals_strs r)
theorem join_len (sep : Str) (ys : List Str) (h : (ys.map (·.length)).sum + ys.length * sep.length ≤ 16777216) : (Txt.join sep ys).length ≤ sizeLine := by
  have hok := joinOk_of h
  unfold JoinOk at hok
  rw [Bool.not_eq_true'] at hok
  have e : ys = (ys.map fun y => (y, (0 : Tok))).map (·.1) := by rw [List.map_map]; exact (List.map_id ys).symm
  rw [e] at hok ⊢
  exact joinFit_length hok
section
variable {X : Cx}
def rJoin (K : PySem.W.Frag) : V → List V → Hp → VK → Prop := fun x vs H Q => ∃ (sep : Str) (a : Addr) (ys : List Str), x = .str sep ∧ vs = [.ref a] ∧ SqL K H a (ys.map V.str) ∧ (ys.map (·.length)).sum + ys.length * sep.length ≤ 16777216 ∧ ∀ z : Str, z.length ≤ sizeLine → z = Txt.join sep ys → Q (.str z) H
theorem mt_joinK (K : PySem.W.Frag) (hK : X.K = K := by rfl) : MtM X "str.join" (rJoin K) := by
  subst hK
  intro pins s σ H x vs v us Q I rx rv h
  obtain ⟨sep, a, ys, rfl, rfl, hq, hz, q⟩ := h
  obtain ⟨t, rfl⟩ := rx
  obtain ⟨u, rfl, ru⟩ := rv.one
  cases ru
  obtain ⟨its, r, p, _⟩ := I.list hq
  exact join_list p.isList (show StrsAre its.toArray.toList ys from strsAre_of r) hz fun t' k => ⟨.str _, H, I.tok k, ⟨t', rfl⟩, q _ (join_len sep ys hz) rfl⟩
def rSortS (K : PySem.W.Frag) : List V → Hp → VK → Prop := fun xs H Q => ∃ (a : Addr) (ss : List Str), xs = [.ref a] ∧ SqL K H a (ss.map V.str) ∧ ss.length < 64 ∧
  ∀ (p : Addr) (ss' : List Str), H p = none → ss'.Perm ss → PyProof.Rows.sortedS ss' = true → Q (.ref p) (upd H p (.lst (ss'.map V.str)))
theorem call_sortSK (K : PySem.W.Frag) (hK : X.K = K := by rfl) : CallR X (.builtin "sorted") (rSortS K) := by
  subst hK
  intro pins s σ H xs us Q I r h
  obtain ⟨a, ss, rfl, hq, hl, q⟩ := h
  obtain ⟨u, rfl, ru⟩ := vals1 r
  cases ru
  obtain ⟨its, rv, p, hz⟩ := I.list hq
  have hlen := rv.length
  rw [List.length_map] at hlen
  refine sorted_strs p.isList (strsAre_of rv) (by omega) fun out ss' a1 a2 a3 => ?_
  obtain ⟨e, he⟩ := sortedAll_at s.heap its out
  have hp : s.heap.objs.size ≤ s.heap.objs.size + 1 := Nat.le_succ _
  refine ⟨.ref (s.heap.objs.size + 1), upd H (s.heap.objs.size + 1) (.lst (ss'.map V.str)), ?_, rfl, q _ ss' (I.hok.fresh hp) a2 a3⟩
  refine I.laid (t' := s.toks) (h' := sortedAll s.heap its out) (fun _ _ => sortedAll_old) hp ⟨?_, out.toList, e, vals_strs a1, ?_⟩
  · rw [List.length_map, a2.length_eq]
    rw [List.length_map] at hz
    exact hz
  · rw [he]
    first
      | done
      | rfl
def rSlS : V → Option Int → Option Int → Hp → VK → Prop := fun x lo hi H Q => ∃ z : Str, x = .str z ∧ z.length ≤ sizeLine ∧ Q (.str (Txt.slice z lo hi)) H
theorem isPart_part {v : Value} {o : Option Int} (p : IsPart v o) : ∃ l : Option (Int × Tok), v = partValue l ∧ l.map (·.1) = o := by
  cases p with
  | none => exact ⟨none, rfl, rfl⟩
  | int i t => exact ⟨some (i, t), rfl, rfl⟩
theorem sl_str : SlR X rSlS := by
  intro pins s σ H x v vl vu lo hi sl Q I rx hs pl pu h
  obtain ⟨z, rfl, hz, q⟩ := h
  obtain ⟨t, rfl⟩ := rx
  obtain ⟨l, rfl, hl⟩ := isPart_part pl
  obtain ⟨u, rfl, hu⟩ := isPart_part pu
  subst hl hu
  obtain ⟨o, ho, hc, hd⟩ := hs
  refine ⟨"str", _, PySem.F.slot_str_getitem.lookup, typeIs_str _ _ _, wpAny_getItem_str_slice (l := l) (u := u) (st := none) ⟨o, ho, hc, hd⟩ rfl ?_⟩
  exact post_val_or_str ⟨Nat.le_trans (Txt.slice_le z _ _) hz, fun t' k => ⟨.str _, H, I.tok k, ⟨t', rfl⟩, q⟩⟩
end
section
variable {X : Cx}
end
mutual
def Dt.noL : Dt → Bool
  | .lst _ => false
  | .tup xs => Dt.noLs xs
  | _ => true
def Dt.noLs : List Dt → Bool
  | [] => true
  | x :: xs => x.noL && Dt.noLs xs
end
def KTs (K : PySem.W.Frag) (H H' : Hp) : Prop := ∀ a xs, SqT K H a xs → SqT K H' a xs
theorem KTs.refl {K : PySem.W.Frag} (H : Hp) : KTs K H H := fun _ _ h => h
theorem KTs.trans {K : PySem.W.Frag} {H H1 H2 : Hp} (a : KTs K H H1) (b : KTs K H1 H2) : KTs K H H2 := fun c o h => b c o (a c o h)
theorem dat_lst {K : PySem.W.Frag} {H : Hp} {a : Addr} {xs : List V} {ds : List Dt} (h : SqL K H a xs) (d : DatsAt K H xs ds) : DatAt K H (.ref a) (.lst ds) := by rw [DatAt]; exact ⟨a, xs, rfl, h, d⟩
theorem dats_nil {K : PySem.W.Frag} {H : Hp} : DatsAt K H [] [] := by simp [DatsAt]
end L2
namespace L2
end L2
namespace L2
open PySem
def KB2 (d e : Addr) (H H' : Hp) : Prop := ∀ b o, H b = some o → b ≠ d → b ≠ e → H' b = some o
theorem KB2.trans {d e : Addr} {H H1 H2 : Hp} (a : KB2 d e H H1) (b : KB2 d e H1 H2) : KB2 d e H H2 := fun c o h n m => b c o (a c o h n m) n m
theorem KB.l {d e : Addr} {H H' : Hp} (k : KB d H H') : KB2 d e H H' := fun b o h n _ => k b o h n
theorem KB.r {d e : Addr} {H H' : Hp} (k : KB e H H') : KB2 d e H H' := fun b o h _ n => k b o h n
theorem Same.kb2 {d e : Addr} {H H' : Hp} (s : Same H H') : KB2 d e H H' := fun b o h _ _ => s b o h
theorem KB2.seq {K : PySem.W.Frag} {d e : Addr} {H H' : Hp} {a : Addr} {xs : List V} (k : KB2 d e H H') (n : a ≠ d) (m : a ≠ e) (h : SqL K H a xs) : SqL K H' a xs := by
  rcases h with (h | ⟨o, h⟩) | h
  · exact .inl (.inl (k _ _ h n m))
  · exact .inl (.inr ⟨o, k _ _ h n m⟩)
  · exact .inr h
theorem FnOk.none {P : Program} {w : World} {K : PySem.W.Frag} {mg : Str → Option Value} {base : Heap} {CX : CXT} {k : Nat} {f : Addr} {fd : FuncData} {ps : List Str} {sp : Sp} (h : ∀ vs H Q E, ¬ sp vs H Q E) : FnOk P w K mg base CX k f fd ps sp :=
  ⟨fun vs H Q E q => (h _ _ _ _ q).elim, fun A outer s H args us vs Q E _ _ _ _ hs => (h _ _ _ _ hs).elim⟩
end L2
set_option Elab.async false
set_option linter.all false
set_option maxRecDepth 100000
set_option maxHeartbeats 4000000
namespace L2
open PySem PySem.Spec PyProof.Rows
section
variable {prog : Program} {w : World} {A : Around} {s : Shared} {R : Result → Shared → Prop}
end
section
variable {prog : Program} {w : World} {A : Around} {E : Value → Shared → Prop} {s : Shared}
end
theorem paired_reverse {α β : Type} {r : α → β → Prop} {xs : List α} {ys : List β} (h : Paired r xs ys) : Paired r xs.reverse ys.reverse := by
  induction h with
  | nil => exact .nil
  | cons a _ ih => rw [List.reverse_cons, List.reverse_cons]; exact paired_append ih (.cons a .nil)
section
variable {X : Cx}
end
theorem mx_args (a d : Value) : argsOk "max" ⟨[a], [(Str.ofString "default", d)]⟩ := by unfold argsOk; kernel_rfl
section
variable {prog : Program} {w : World} {A : Around} {R : Result → Shared → Prop} {I : Addr} {fp wr : List Addr} {St : Nat → Heap → Prop} {its : Array Value} {val : Nat → Int} {kw : List (Str × Value)}
theorem mx_loop (W : Walks prog w A.in1 I fp wr its.size (fun i v => its[i]? = some v) St) (hv : ∀ (i : Nat) v, its[i]? = some v → ∃ t, v = .int (val i) t) (S : Addr) (hSf : S ∉ fp) :
    ∀ (k j : Nat) (s : Shared) (M : Int) (t : Tok) (c : Nat), its.size - j = k → j ≤ its.size → St j s.heap → s.heap.get? S = some { cls := .type "list", dict := none, data := .seq #[.int M t, .int M t] c, slots := #[] } →
    (∃ i, i < j ∧ M = val i) → (∀ i, i < j → val i ≤ M) →
    (∀ (m : Int) t' h' tk, (∃ i, i < its.size ∧ m = val i) → (∀ i, i < its.size → val i ≤ m) → (∀ b o, b ∉ wr → b ≠ S → s.heap.get? b = some o → h'.get? b = some o) → R (.ok (.ret (.int m t'))) { s with heap := h', toks := tk }) →
    codeAny (model prog w) A (.builtin "max.loop" ⟨[.ref I, .none, .ref S], kw⟩) R s := by
  have hSw : S ∉ wr := fun z => hSf (W.sub _ z)
  have nm : (toString "max" ++ toString ".loop" : String) = "max.loop" := by decide
  intro k
  induction k with
  | zero =>
    intro j s M t c hk hj st hS hM hx hR
    obtain rfl : j = its.size := by omega
    (refine codeAny_builtin F.entry_max_loop ?_); rw [Around.under_plainId F.plain_max_loop _]
    (show wpAny _ A.in1 (seqItems? (.ref S) >>= _) _ _ s); refine wpAny_bind (wpAny_seqItems hS rfl ?_)
    (show wpAny _ A.in1 (tryCatch (pyNext (.ref I)) _ >>= _) _ _ s); refine wpAny_bind (wpAny_tryCatch (W.done s _ _ st fun h' tk hk' => ?_))
    have hS' := hk' S _ hSw hS
    (show wpAny _ A.in1 (updateSeq S (fun _ => #[]) >>= _) _ _ _); (refine wpAny_bind ?_)
    refine wpAny_updateSeq hS' rfl (wpAny_bind (wpAny_letGo (wpAny_pure ?_)))
    exact hR M t _ tk hM hx fun b o hb hb' e => (Heap.get?_update_other _ _ (Ne.symm hb')).trans (hk' b o hb e)
  | succ k ih =>
    intro j s M t c hk hj st hS hM hx hR
    have lt : j < its.size := by omega
    (refine codeAny_builtin F.entry_max_loop ?_); rw [Around.under_plainId F.plain_max_loop _]
    (show wpAny _ A.in1 (seqItems? (.ref S) >>= _) _ _ s); refine wpAny_bind (wpAny_seqItems hS rfl ?_)
    (show wpAny _ A.in1 (tryCatch (pyNext (.ref I)) _ >>= _) _ _ s); refine wpAny_bind (wpAny_tryCatch (W.item j s _ _ lt st fun v h' tk hP st' hk' => ?_))
    have hS' := hk' S _ hSw hS
    obtain ⟨u, rfl⟩ := hv j v hP
    show wpAny _ A.in1 (tryCatch (holding [_, _] (richCompare .Gt (.int (val j) u) (.int M t) >>= _)) _ >>= _) _ _ _
    refine wpAny_bind (wpAny_tryCatch (wpAny_holding (wpAny_bind (richCompare_gives (op := .Gt) (typeIs_int _ _ u) (typeIs_int _ _ t) F.slot_int_gt F.entry_int_gt (F.args_int_gt_2 _ _) (gives_int_gt _ _ u t) (fun x => nomatch x) ?_))))
    (refine wpAny_bind (wpAny_holding (wpAny_truthy_bool ?_))); refine wpAny_bind (wpAny_letGo (wpAny_pure ?_))
    by_cases hb : val j > M
    · rw [if_pos (by simpa using hb)]
      (refine wpAny_bind ?_); refine wpAny_updateSeq hS' rfl (wpAny_bind (wpAny_letGo ?_))
      rw [nm]
      refine wpAny_pure ⟨plainId_quiet F.plain_max_loop _, ih (j + 1) _ (val j) u _ (by omega) lt (W.frame _ _ _ st' fun b hbf o e => (Heap.get?_update_other _ _ (fun z : S = b => hSf (z ▸ hbf))).trans e) (Heap.get?_update_self _ hS' rfl) ⟨j, Nat.lt_succ_self _, rfl⟩ (fun i hi => ?_) fun m t' h2 tk2 a1 a2 k2 => ?_⟩
      · by_cases e : i = j
        · rw [e]; exact Int.le_refl _
        · exact Int.le_trans (hx i (by omega)) (Int.le_of_lt hb)
      · exact hR m t' h2 tk2 a1 a2 fun b o hb1 hb2 e => k2 b o hb1 hb2 ((Heap.get?_update_other _ _ (Ne.symm hb2)).trans (hk' b o hb1 e))
    · rw [if_neg (by simpa using hb)]
      (refine wpAny_bind (wpAny_letGo ?_)); rw [nm]
      obtain ⟨i0, hi0, e0⟩ := hM
      refine wpAny_pure ⟨plainId_quiet F.plain_max_loop _, ih (j + 1) _ M t c (by omega) lt st' hS' ⟨i0, by omega, e0⟩ (fun i hi => ?_) fun m t' h2 tk2 a1 a2 k2 => hR m t' h2 tk2 a1 a2 fun b o hb1 hb2 e => k2 b o hb1 hb2 (hk' b o hb1 e)⟩
      by_cases e : i = j
      · rw [e]; exact Int.not_lt.mp hb
      · exact hx i (by omega)
theorem mx_first (W : Walks prog w A.in1 I fp wr its.size (fun i v => its[i]? = some v) St) (hv : ∀ (i : Nat) v, its[i]? = some v → ∃ t, v = .int (val i) t) (S : Addr) (hSf : S ∉ fp) {s : Shared} {c : Nat} {y : Str} {d : Value} (st : St 0 s.heap)
    (hS : s.heap.get? S = some { cls := .type "list", dict := none, data := .seq #[] c, slots := #[] })
    (hR0 : its.size = 0 → ∀ h' tk, (∀ b o, b ∉ wr → b ≠ S → s.heap.get? b = some o → h'.get? b = some o) → R (.ok (.ret d)) { s with heap := h', toks := tk })
    (hR : ∀ (m : Int) t' h' tk, (∃ i, i < its.size ∧ m = val i) → (∀ i, i < its.size → val i ≤ m) → (∀ b o, b ∉ wr → b ≠ S → s.heap.get? b = some o → h'.get? b = some o) → R (.ok (.ret (.int m t'))) { s with heap := h', toks := tk }) :
    codeAny (model prog w) A (.builtin "max.loop" ⟨[.ref I, .none, .ref S], [(y, d)]⟩) R s := by
  have hSw : S ∉ wr := fun z => hSf (W.sub _ z)
  have nm : (toString "max" ++ toString ".loop" : String) = "max.loop" := by decide
  (refine codeAny_builtin F.entry_max_loop ?_); rw [Around.under_plainId F.plain_max_loop _]
  (show wpAny _ A.in1 (seqItems? (.ref S) >>= _) _ _ s); refine wpAny_bind (wpAny_seqItems hS rfl ?_)
  (show wpAny _ A.in1 (tryCatch (pyNext (.ref I)) _ >>= _) _ _ s)
  by_cases h0 : its.size = 0
  · refine wpAny_bind (wpAny_tryCatch (W.done s _ _ (by rw [h0]; exact st) fun h' tk hk' => ?_))
    show wpAny _ A.in1 (rule _ >>= fun _ => ret d) _ _ _
    refine wpAny_bind (wpAny_rule (wpAny_pure ?_))
    exact hR0 h0 h' tk fun b o hb _ e => hk' b o hb e
  · have lt : 0 < its.size := by omega
    refine wpAny_bind (wpAny_tryCatch (W.item 0 s _ _ lt st fun v h' tk hP st' hk' => ?_))
    have hS' := hk' S _ hSw hS
    obtain ⟨u, rfl⟩ := hv 0 v hP
    (show wpAny _ A.in1 (updateSeq S (fun _ => #[.int (val 0) u, .int (val 0) u]) >>= _) _ _ _); (refine wpAny_bind ?_)
    (refine wpAny_updateSeq hS' rfl ?_); rw [nm]
    refine wpAny_pure ⟨plainId_quiet F.plain_max_loop _, mx_loop W hv S hSf _ 1 _ (val 0) u _ rfl lt (W.frame _ _ _ st' fun b hbf o e => (Heap.get?_update_other _ _ (fun z : S = b => hSf (z ▸ hbf))).trans e) (Heap.get?_update_self _ hS' rfl) ⟨0, Nat.one_pos, rfl⟩ (fun i hi => by rw [show i = 0 by omega]; exact Int.le_refl _) fun m t' h2 tk2 a1 a2 k2 => ?_⟩
    exact hR m t' h2 tk2 a1 a2 fun b o hb1 hb2 e => k2 b o hb1 hb2 ((Heap.get?_update_other _ _ (Ne.symm hb2)).trans (hk' b o hb1 e))
end
section
variable {prog : Program} {w : World} {A : Around} {E : Value → Shared → Prop} {s : Shared}
theorem tree_kw {id : String} {b : Builtin} {args : List Value} {kw : List (Str × Value)} {Q : Value → Shared → Prop} (hk : builtinKind id = none) (hp : plainId id = true) (hb : entryFor table id = some b) (ha : argsOk id ⟨args, kw⟩)
    (hc : wpAny (model prog w) A.in1 (b ⟨args, kw⟩) (fun fin s' => match fin with
      | .done f => (match (Except.ok f : Result) with | .ok (.ret v) => Q v s' | .ok _ => False | .error e => E e s')
      | .again c => c.quiet = true ∧ codeAny (model prog w) A c (fun r s' => match r with | .ok (.ret v) => Q v s' | .ok _ => False | .error e => E e s') s') E s) :
    wpAny (model prog w) A (call (.builtin id) args kw) Q E s := by
  (refine wpAny_call (codeAny_call_builtin hp hb ?_)); simp only [checkBuiltinCall, hk]
  cases hg : Manifest.signature? id with
  | none => exact wpAny_pure hc
  | some sig =>
    have h2 : Bind.checkArgs id sig ⟨args, kw⟩ = pure () := by simpa only [argsOk, hg] using ha
    simp only [h2]
    exact wpAny_pure hc
theorem call_max_dflt {l : Addr} {its : Array Value} {val : Nat → Int} {d : Value} {Q : Value → Shared → Prop} (hh : A.handled = none) (hl : s.heap.IsList l its) (hv : ∀ (i : Nat) v, its[i]? = some v → ∃ t, v = .int (val i) t)
    (h0 : its.size = 0 → ∀ h' tk, (∀ b o, s.heap.get? b = some o → h'.get? b = some o) → Q d { s with heap := h', toks := tk })
    (h1 : ∀ (m : Int) t' h' tk, (∃ i, i < its.size ∧ m = val i) → (∀ i, i < its.size → val i ≤ m) → (∀ b o, s.heap.get? b = some o → h'.get? b = some o) → Q (.int m t') { s with heap := h', toks := tk }) :
    wpAny (model prog w) A (call (.builtin "max") [.ref l] [(Str.ofString "default", d)]) Q E s := by
  have nm : (toString "max" ++ toString ".loop" : String) = "max.loop" := by decide
  refine tree_kw F.kind_max F.plain_max F.entry_max (mx_args _ d) ?_
  show wpAny _ A.in1 (Builtin.Builtins.bindParams "max" ["key", "default"] 0 ⟨[], [(Str.ofString "default", d)]⟩ >>= _) _ _ s
  refine wpAny_bind (wpAny_of_eq (show Builtin.Builtins.bindParams "max" ["key", "default"] 0 ⟨[], [(Str.ofString "default", d)]⟩ = pure [none, some d] from by with_unfolding_all rfl) ?_)
  (refine wpAny_bind (wpAny_pure ?_)); (refine wpAny_bind ?_)
  have bl : l < s.heap.objs.size := by obtain ⟨o, e, _⟩ := hl; exact Heap.lt_size e
  refine wpAny_pyIter_list hl ?_
  (refine wpAny_bind (wpAny_newObj_type ?_)); rw [nm]
  have W := Walks.list (prog := prog) (w := w) (A := A.in1) hh s.heap.objs.size l (Nat.ne_of_lt bl) its
  have old : ∀ (h1 h' : Heap) (hs : ∀ b o, s.heap.get? b = some o → h1.get? b = some o), (∀ b o, b ∉ [s.heap.objs.size] → b ≠ s.heap.objs.size + 1 → h1.get? b = some o → h'.get? b = some o) → ∀ b o, s.heap.get? b = some o → h'.get? b = some o := fun h1 h' hs k b o e =>
    k b o (fun z => Nat.ne_of_lt (Heap.lt_size e) (List.mem_singleton.mp z)) (Nat.ne_of_lt (Nat.lt_succ_of_lt (Heap.lt_size e))) (hs b o e)
  refine wpAny_pure ⟨plainId_quiet F.plain_max_loop _, mx_first (val := val) W hv _ (fun hm => ?_) ⟨⟨_, Heap.get?_push_of_some _ (Heap.get?_push_size _ rfl), rfl, rfl⟩, (hl.push _).push _⟩ (Heap.get?_push_size _ rfl) (fun z h' tk k => h0 z h' tk ?_) fun m t' h' tk a1 a2 k => h1 m t' h' tk a1 a2 ?_⟩
  · rw [Heap.size_push] at hm
    rcases List.mem_cons.mp hm with z | z
    · exact Nat.succ_ne_self _ z
    · exact Nat.ne_of_lt (Nat.lt_succ_of_lt bl) (List.mem_singleton.mp z).symm
  · rw [Heap.size_push] at k
    exact old _ h' (fun b o e => Heap.get?_push_of_some _ (Heap.get?_push_of_some _ e)) k
  · rw [Heap.size_push] at k
    exact old _ h' (fun b o e => Heap.get?_push_of_some _ (Heap.get?_push_of_some _ e)) k
end
section
variable {X : Cx}
theorem vals_at {ns : List Int} {its : List Value} (r : Vals (ns.map V.int) its) (i : Nat) (v : Value) (e : its.toArray[i]? = some v) : ∃ t, v = .int (ns.getD i 0) t := by
  rw [List.getElem?_toArray] at e
  have hl := r.length
  rw [List.length_map] at hl
  have hi : i < its.length := (List.getElem?_eq_some_iff.mp e).1
  have en : (ns.map V.int)[i]? = some (.int (ns.getD i 0)) := by
    rw [List.getElem?_map, List.getD_eq_getElem?_getD, List.getElem?_eq_getElem (by omega : i < ns.length)]
    rfl
  obtain ⟨u, eu, ru⟩ := r.get en
  rw [e] at eu
  cases eu
  exact ru
def tMaxD (K : PySem.W.Frag) (ta td : TA) : TE := fun σ H Q => ta σ H fun vs H1 => td σ H1 fun ds H2 => ∃ (a : Addr) (ns : List Int) (d : V), vs = [.ref a] ∧ ds = [d] ∧ SqL K H2 a (ns.map V.int) ∧ (ns = [] → Q d H2) ∧ ∀ m : Int, m ∈ ns → (∀ x ∈ ns, x ≤ m) → Q (.int m) H2
theorem pe_maxD (K : PySem.W.Frag) {a e : Expr} {ta td : TA} {p pos kp : Pos} (hc : X.calm = true) (hg : Gl X "max") (hm : X.mg "max" = none) (ha : PA X [a] ta) (hd : PK X [⟨some (Str.ofString "default"), e, kp⟩] td) (hK : X.K = K := by rfl)
    (hs : backTo pos (starEach [a] X.env) = (false, eval a X.env) :: backTo pos (starEach [] X.env) := by rfl) : PE X (.Call (.Name "max" p) [a] [⟨some (Str.ofString "default"), e, kp⟩] pos) (tMaxD K ta td) := by
  subst hK
  intro pins s σ H Q I h
  refine wpAny_Call_Name_kw (ld_blt I hg hm bt_max ?_)
  refine PyProof.Rows.callWith_kw (thn (ha pos pins s σ H _ I h) fun us s1 ⟨vs, H1, I1, r1, q1⟩ => thn (hd pos pins s1 σ H1 _ I1 q1) fun ws s2 ⟨ds, H2, I2, r2, q2⟩ => ?_) hs (by rw [hs]; rfl) rfl rfl
  obtain ⟨l, ns, d, rfl, rfl, hq, q0, q⟩ := q2
  obtain ⟨u, rfl, ru⟩ := vals1 r1
  cases ru
  obtain ⟨u, rfl, rd⟩ := vals1 r2
  obtain ⟨its, rv, pl, hz⟩ := I2.list hq
  have hl := rv.length
  rw [List.length_map] at hl
  refine call_max_dflt (val := fun i => ns.getD i 0) (I2.ok.hd hc) pl.isList (vals_at rv) (fun z h' tk k => ?_) fun m t' h' tk a1 a2 k => ?_
  · refine ⟨d, H2, I2.kept k, rd, q0 (List.eq_nil_of_length_eq_zero ?_)⟩
    simp only [List.size_toArray] at z
    omega
  · simp only [List.size_toArray] at a1 a2
    refine ⟨.int m, H2, I2.kept k, ⟨t', rfl⟩, q m ?_ fun x hx => ?_⟩
    · obtain ⟨i, hi, e⟩ := a1
      rw [e, List.getD_eq_getElem?_getD, List.getElem?_eq_getElem (by omega : i < ns.length)]
      exact List.getElem_mem _
    · obtain ⟨i, hi, e⟩ := List.getElem_of_mem hx
      have := a2 i (by omega)
      rw [List.getD_eq_getElem?_getD, List.getElem?_eq_getElem hi] at this
      rw [← e]
      exact this
end
end L2
set_option Elab.async false
set_option linter.all false
set_option maxRecDepth 100000
set_option maxHeartbeats 4000000
namespace L2
open PySem PySem.Spec PyProof.Rows
open AutoSeq1 (wpAny_loadPart')
section
variable {prog : Program} {w : World} {A : Around} {E : Value → Shared → Prop} {s : Shared}
end
section
variable {prog : Program} {w : World} {A : Around} {E : Value → Shared → Prop} {s : Shared}
end
end L2
set_option Elab.async false
set_option linter.all false
set_option maxRecDepth 100000
set_option maxHeartbeats 4000000
namespace L2
open PySem PySem.Spec PyProof.Rows
section
variable {X : Cx}
end
end L2
set_option Elab.async false
set_option linter.all false
set_option maxRecDepth 100000
set_option maxHeartbeats 4000000
namespace L2
open PySem PySem.Spec PyProof.Rows
section
variable {X : Cx} {pins : List (Addr × Obj)} {σ : List (Option V)} {H : Hp} {s : Shared}
end
section
variable {X : Cx} {tg : Expr}
end
section
variable {X : Cx}
end
section
variable {X : Cx}
end
end L2
set_option Elab.async false
set_option linter.all false
set_option maxRecDepth 100000
set_option maxHeartbeats 4000000
namespace L2
open PySem PySem.Spec PyProof.Rows
section
variable {X : Cx} {pins : List (Addr × Obj)} {σ : List (Option V)} {H : Hp} {s : Shared} {h' : Heap}
end
section
variable {X : Cx} {tg : Expr}
end
end L2
namespace L2
open PySem PySem.Spec PyProof.Rows
open PySem.AutoSeq1 (wpAny_loadPart')
open PySem.MeetsSeq PySem.MeetsSeq2 PySem.MeetsSeq3
section
variable {prog : Program} {w : World} {A : Around} {E : Value → Shared → Prop} {s : Shared}
end
section
variable {X : Cx}
end
end L2
set_option Elab.async false
set_option linter.all false
set_option maxRecDepth 100000
set_option maxHeartbeats 4000000
namespace L2
open PySem PySem.Spec PyProof.Rows
structure SetS (P : Program) (w : World) (h : Heap) (a : Addr) (es : Array (Int × Value)) (ep : Nat) (t : SetTable) (ks : List Str) : Prop where
  obj : ∃ o, h.get? a = some o ∧ o.ExactSet ∧ o.data = .set es ep t
  elems : ElemsOf (strKind P w) es.toList
  small : es.size < scanBound
  fits : t.fits es.size = true
  led : t.led = !w.params.followText "set-order"
  plain : es.size ≠ 0 → t.plain = false
  vals : StrsAre (es.toList.map (·.2)) ks
  once : ks.Nodup
theorem SetS.at {P : Program} {w : World} {h h' : Heap} {a : Addr} {es : Array (Int × Value)} {ep : Nat} {t : SetTable} {ks : List Str} (s : SetS P w h a es ep t ks) (k : ∀ o, h.get? a = some o → h'.get? a = some o) : SetS P w h' a es ep t ks := by
  obtain ⟨o, e, r⟩ := s.obj
  exact ⟨⟨o, k o e, r⟩, s.elems, s.small, s.fits, s.led, s.plain, s.vals, s.once⟩
theorem SetS.len {P : Program} {w : World} {h : Heap} {a : Addr} {es : Array (Int × Value)} {ep : Nat} {t : SetTable} {ks : List Str} (s : SetS P w h a es ep t ks) : es.size = ks.length := by
  have := s.vals.length
  rw [List.length_map, Array.length_toList] at this
  exact this
section
variable {P : Program} {w : World} {A : Around} {E : Value → Shared → Prop} {s : Shared}
end
end L2
set_option Elab.async false
set_option linter.all false
set_option maxRecDepth 100000
set_option maxHeartbeats 4000000
namespace L2
open PySem PySem.Spec PyProof.Rows
section
variable {P : Program} {w : World} {A : Around} {R : Result → Shared → Prop} {I S : Addr} {fp wr : List Addr} {G : Array GenState → Array GenState → Prop} {n : Nat} {Pv : Nat → Value → Prop} {St : Nat → Shared → Prop}
end
section
variable {P : Program} {w : World} {A : Around} {E : Value → Shared → Prop} {s : Shared}
end
end L2
set_option Elab.async false
set_option linter.all false
set_option maxRecDepth 100000
set_option maxHeartbeats 4000000
namespace L2
open PySem PySem.Spec PyProof.Rows
namespace SI
end SI
section
variable {P : Program} {w : World} {A : Around} {E : Value → Shared → Prop} {s : Shared}
end
section
variable {P : Program} {w : World} {A : Around} {E : Value → Shared → Prop}
end
end L2
set_option Elab.async false
set_option linter.all false
set_option maxRecDepth 100000
set_option maxHeartbeats 4000000
namespace L2
open PySem PySem.Spec PyProof.Rows
section
variable {P : Program} {w : World} {A : Around} {E : Value → Shared → Prop} {s : Shared}
end
section
variable {X : Cx}
end
end L2
set_option Elab.async false
set_option linter.all false
set_option maxRecDepth 100000
set_option maxHeartbeats 4000000
namespace L2
open PySem PySem.Spec PyProof.Rows
open PySem.AutoSeq1 (wpAny_loadPart')
section
variable {X : Cx}
end
theorem nodup_len : ∀ {l : List Str} {ss : List Str}, l.Nodup → (∀ y ∈ l, y ∈ ss) → l.length ≤ ss.length
  | [], ss, _, _ => Nat.zero_le _
  | x :: l, ss, h, hs => by
    rw [List.nodup_cons] at h
    have hx := hs x List.mem_cons_self
    have := nodup_len (l := l) (ss := ss.erase x) h.2 fun y hy => (List.mem_erase_of_ne (fun e : y = x => h.1 (by rw [← e]; exact hy))).mpr (hs y (List.mem_cons_of_mem _ hy))
    rw [List.length_erase_of_mem hx] at this
    have hp : 0 < ss.length := List.length_pos_of_mem hx
    rw [List.length_cons]
    omega
theorem inV_strs (x : Str) (l : List Str) : inV (.str x) (l.map V.str) = decide (x ∈ l) := by
  induction l with
  | nil => rfl
  | cons y l ih =>
    unfold inV at ih ⊢
    rw [List.map_cons, List.any_cons, ih]
    show ((y == x) || _) = _
    by_cases e : y = x
    · simp [e]
    · have e' : ¬ x = y := fun z => e z.symm
      simp [e, e']
end L2
set_option Elab.async false
set_option linter.all false
set_option maxRecDepth 100000
namespace L2
open PySem PySem.Spec PyProof.Rows
section
variable {M : Model} {A : Around} {E : Value → Shared → Prop} {s : Shared} {base : Heap} {env : Env} {outer : List Env} {L e : Addr} {oe : Obj} {vs : Array Value} {Q : Unit → Shared → Prop}
end
end L2
set_option Elab.async false
set_option linter.all false
set_option maxRecDepth 100000
namespace L2
open PySem PySem.Spec PyProof.Rows
def ExcO (fresh : Bool) (a C : Addr) (dx : Option Addr) : Heap → Prop := fun h =>
  ∃ o vs, h.get? a = some o ∧ o.cls = .ref C ∧ o.dict = dx ∧ o.data = .fields vs ∧ vs.size = 6 ∧ (fresh = true → vs[1]? = some .none)
abbrev xo (fresh : Bool) (a C : Addr) (dx : Option Addr) : HO := .ext (ExcO fresh a C dx)
def Fly (n : Nat) (a : Addr) (H : Hp) (h : Heap) : Prop := ∃ o vs T oT ts, h.get? a = some o ∧ o.data = .fields vs ∧ vs[1]? = some (.ref T) ∧ T ≠ a ∧ n ≤ T ∧ H T = none ∧ h.get? T = some oT ∧ oT.data = .fields ts ∧ ts[3]? = some .none
theorem Fly.mono {n m : Nat} {a : Addr} {H : Hp} {h : Heap} (x : Fly n a H h) (q : m ≤ n) : Fly m a H h := by
  obtain ⟨o, vs, T, oT, ts, e1, e2, e3, e4, e5, r⟩ := x
  exact ⟨o, vs, T, oT, ts, e1, e2, e3, e4, Nat.le_trans q e5, r⟩
section
variable {X : Cx} {pins : List (Addr × Obj)} {σ : St} {H : Hp} {s : Shared} {h' : Heap} {a C T : Addr} {dx : Option Addr} {f : Bool} {oe : Obj} {hd : Option Addr}
end
def CXR (P : Program) (w : World) : CXT := fun outer H s E e s' => ∃ a C dx H', e = .ref a ∧ s'.os = s.os ∧ AllBare s'.gens ∧ Un (frs outer) [] H H' s.heap s'.heap ∧ HOk P w H' s'.heap ∧
  H' a = some (xo false a C dx) ∧ Fly s.heap.objs.size a H' s'.heap ∧ E (.ref a) dx H'
section
variable {P : Program} {w : World} {K : PySem.W.Frag} {mg : Str → Option Value} {base : Heap} {N : List Str} {qual : Str} {scope : Scope} {fa : Addr} {cd : Value} {A : Around} {outer : List Env} {s₀ : Shared} {H₀ : Hp} {E : XK}
theorem CXR.after {X : Cx} {pins : List (Addr × Obj)} {σ : St} {H : Hp} {s s' : Shared} {e : Value} {E' : XK} (I : Inv X pins σ H s) (c : CXR X.prog X.w X.stack H s E' e s') :
    ∃ a C dx H', e = .ref a ∧ Inv X pins σ H' s' ∧ H' a = some (xo false a C dx) ∧ Fly s.heap.objs.size a H' s'.heap ∧ E' (.ref a) dx H' := by
  obtain ⟨a, C, dx, H', e, os, bare, un, hok, Ha, fl, hE⟩ := c
  exact ⟨a, C, dx, H', e, I.call' (ch := []) os un hok bare (fun b z => absurd z (by simp)), Ha, fl, hE⟩
end
end L2
set_option Elab.async false
set_option linter.all false
set_option maxRecDepth 100000
set_option maxHeartbeats 1000000
namespace L2
open PySem PySem.Spec PyProof.Rows PySem.W PySem.Builtin PySem.Builtin.ObjectAttr
abbrev veM : List Value := [.type "ValueError", .type "Exception", .type "BaseException", .type "object"]
structure XC (K : PySem.W.Frag) (C : Addr) (bm : List Value) : Prop where
  obj : ∃ nm q N bs sn sub ab col dd k0 k1 k2 k3 k5, K.lookup C = some (excClassObj nm q C N bs bm true sn sub ab col dd k0 k1 k2 k3 k5 "ValueError.__new__")
  tl : tailIn K veM bm = true
  rf : ∀ self : Value, refuseLoop self "__setattr__" bm = pure ()
  ga : findIn K (.ref C) "__getattribute__" = some (some (.builtin "BaseException.__getattribute__"))
  gh : findIn K (.ref C) "__getattr__" = some none
  sa : findIn K (.ref C) "__setattr__" = some (some (.builtin "object.__setattr__"))
  cl : findIn K (.ref C) "__class__" = some (some (.builtin "object.__class__"))
  gt : specialIn K (.builtin "object.__class__") "__get__" = some (some (.builtin "getset_descriptor.__get__"))
  tk : takesIn K (.builtin "object.__class__") = some true
namespace XC
variable {K : PySem.W.Frag} {C : Addr} {bm : List Value}
theorem cls (c : XC K C bm) : ∃ cd, clsIn K C = some cd ∧ cd.mro = .ref C :: bm ∧ cd.hasDict = true := by
  obtain ⟨nm, q, N, bs, sn, sub, ab, col, dd, k0, k1, k2, k3, k5, e⟩ := c.obj
  unfold clsIn
  rw [e]
  exact ⟨_, rfl, rfl, rfl⟩
theorem mro (c : XC K C bm) (v : Value) : mroIn K C v = some ((Value.ref C :: bm).contains v) := by
  obtain ⟨cd, e, m, _⟩ := c.cls
  unfold mroIn
  rw [e, Option.bind_some, m]
  rfl
theorem tail (c : XC K C bm) {h : Heap} (X : K.In h) : OwnTail h veM bm := tail_of_in X c.tl
theorem has (c : XC K C bm) {h : Heap} (X : K.In h) {T : String} {b : Bool} (e : veM.contains (.type T) = b) : mroIn K C (.type T) = some b := by
  rw [c.mro, List.contains_cons, (c.tail X).hasType e]
  rfl
end XC
section
variable {prog : Program} {w : World} {A : Around} {E : Value → Shared → Prop} {s : Shared} {K : PySem.W.Frag} {x C D fI : Addr} {bm bmD : List Value} {ox : Obj} {od : Option Obj} {name : Str} {v : Value}
end
end L2
set_option Elab.async false
set_option linter.all false
set_option maxRecDepth 100000
set_option maxHeartbeats 1000000
namespace L2
open PySem PySem.Spec PyProof.Rows PySem.W
section
variable {prog : Program} {w : World} {A : Around} {E : Value → Shared → Prop} {K : PySem.W.Frag} {x C D fI : Addr} {bm bmD : List Value} {ox : Obj} {hp : Heap} {g : Array GenState} {d : Drawn} {t : Nat} {os : OsState}
end
end L2
set_option Elab.async false
set_option linter.all false
set_option maxRecDepth 100000
set_option maxHeartbeats 1000000
namespace L2
open PySem PySem.Spec PyProof.Rows
section
variable {X : Cx} {pins : List (Addr × Obj)} {σ : St} {H : Hp} {s : Shared} {a C D dx : Addr} {bm bmD : List Value} {f : Bool} {od : Option Addr}
end
section
variable {X : Cx} {e : Expr} {n : Str} {pos : Pos} {ta : TE}
end
end L2
set_option Elab.async false
set_option linter.all false
set_option maxRecDepth 100000
set_option maxHeartbeats 1000000
namespace L2
open PySem PySem.Spec PyProof.Rows
section
variable {X : Cx} {k : Nat} {e : Expr} {te : TE} {a b : Str} {j j' : Nat} {p1 p2 p3 pos : Pos}
end
section
variable {X : Cx} {D : Addr} {x : Str} {p pos apos : Pos} {e : Expr} {es : List Expr} {t : TA}
end
section
variable {X : Cx} {o value : Expr} {n : Str} {pos pos' : Pos} {ta tv : TE}
end
end L2
set_option Elab.async false
set_option linter.all false
set_option maxRecDepth 100000
set_option maxHeartbeats 1000000
namespace L2
open PySem PySem.Spec PyProof.Rows
section
variable {X : Cx} {k : Nat} {C fI : Addr} {bm : List Value} {fd : FuncData} {ps : List Str} {sp : Sp} {x : Str} {p pos : Pos} {e : Expr} {es : List Expr} {t : TA}
end
abbrev Cx.suite (X : Cx) (a : Addr) : Cx := { X with A := X.A.mark (some (.ref a)), calm := false, xe := fun _ _ => False }
section
variable {X : Cx} {pins : List (Addr × Obj)} {σ : St} {H : Hp} {s : Shared} {a : Addr}
theorem Inv.suite (I : Inv X pins σ H s) (a : Addr) : Inv (X.suite a) pins σ H s :=
  ⟨⟨I.ok.mod, I.ok.kind, I.ok.glob, I.ok.blt, I.ok.above, I.ok.inj, I.ok.has, I.ok.cab, fun z => (by cases z), I.ok.frames, I.ok.stk, I.ok.exf, I.ok.bs, I.ok.bsz, I.ok.noex, I.ok.exfs, I.ok.funs, I.ok.frf⟩, I.os, I.bare, I.base, I.loc, I.cell, I.free, I.freeC, I.pin, I.hok, I.len⟩
end
section
variable {X : Cx} {k : Nat} {D f : Addr} {bmD : List Value} {fd : FuncData} {ps : List Str} {sp : Sp} {x y n dn : Str} {px pf pc pa pd ph pos : Pos} {e : Expr} {es : List Expr} {t : TA} {i j : Nat} {b₀ : Stmt} {suite : List Stmt} {ts : TS}
end
end L2
set_option Elab.async false
set_option linter.all false
set_option maxRecDepth 100000
set_option maxHeartbeats 1000000
namespace L2
open PySem PySem.Spec PyProof.Rows
end L2
set_option Elab.async false
set_option linter.all false
set_option maxRecDepth 100000
set_option maxHeartbeats 1000000
namespace HT
open PySem PySem.Spec PyProof.Rows
section
variable {prog : Program} {w : World} {A : Around} {E : Value → Shared → Prop} {s : Shared}
end
end HT
namespace L2
open PySem PySem.Spec PyProof.Rows
section
variable {X : Cx}
end
end L2
set_option Elab.async false
set_option linter.all false
set_option maxRecDepth 100000
set_option maxHeartbeats 1000000
namespace L2
open PySem PySem.Spec PyProof.Rows
section
variable {X : Cx} {o e : Expr} {es : List Expr} {to ta : TE} {t : TA} {T : String} {name n : Str} {id : String} {apos cpos pos : Pos} {r : V → List V → Hp → VK → Prop}
end
end L2
set_option Elab.async false
set_option linter.all false
set_option maxRecDepth 100000
set_option maxHeartbeats 1000000
namespace L2
open PySem PySem.Spec PyProof.Rows
section
variable {prog : Program} {w : World} {A : Around} {E : Value → Shared → Prop} {s : Shared}
end
section
variable {X : Cx} {pos : Pos}
end
section
variable {X : Cx}
end
section
open Builtin
end
end L2
set_option Elab.async false
set_option linter.all false
set_option maxRecDepth 100000
set_option maxHeartbeats 1000000
namespace L2
open PySem PySem.Spec PyProof.Rows
section
variable {X : Cx}
end
end L2
set_option Elab.async false
set_option linter.all false
set_option maxRecDepth 100000
set_option maxHeartbeats 1000000
namespace L2
open PySem PySem.Spec PyProof.Rows
section
variable {X : Cx}
theorem kit_bb {K : PySem.W.Frag} : PySem.W.kitOne K (.type "bool") (.type "bool") = some true := by rfl
end
end L2
set_option Elab.async false
set_option linter.all false
set_option maxRecDepth 100000
set_option maxHeartbeats 1000000
namespace HT
open PySem PySem.Spec PyProof.Rows
section
variable {prog : Program} {w : World} {A : Around} {E : Value → Shared → Prop} {s : Shared}
end
end HT
namespace L2
open PySem PySem.Spec PyProof.Rows
section
variable {X : Cx} {e : Expr} {lo hi : Option Expr} {st : Expr} {te : TE} {tl th tk : TO} {p2 pos : Pos}
end
end L2
set_option Elab.async false
set_option linter.all false
set_option maxRecDepth 100000
set_option maxHeartbeats 1000000
namespace L2
open PySem PySem.Spec PyProof.Rows
section
variable {X : Cx} {e : Expr} {lo hi : Option Expr} {st : Expr} {te : TE} {tl th tk : TO} {p2 pos : Pos}
def rRevL (K : PySem.W.Frag) (x : V) (l u k : Option Int) : Hp → VK → Prop := fun H Q => ∃ a xs, l = none ∧ u = none ∧ k = some (-1) ∧ x = .ref a ∧ SqL K H a xs ∧ ∀ p, H p = none → Q (.ref p) (upd H p (.lst xs.reverse))
def tRevL (K : PySem.W.Frag) (te : TE) (tl th tk : TO) : TE := fun σ H Q => te σ H fun x H1 => tl σ H1 fun l H2 => th σ H2 fun u H3 => tk σ H3 fun k H4 => rRevL K x l u k H4 Q
theorem pe_revL (K : PySem.W.Frag) (he : PE X e te) (hl : PO X lo tl) (hu : PO X hi th) (hk : PO X (some st) tk) (hK : X.K = K := by rfl) : PE X (.Subscript e (.Slice lo hi (some st) p2) pos) (tRevL K te tl th tk) := by
  subst hK
  intro pins s σ H Q I h
  refine Subscript_ (thn (he pins s σ H _ I h) fun v s1 ⟨x, H1, I1, r1, q1⟩ => ?_)
  refine wpAny_Slice (thn (hl pins s1 σ H1 _ I1 q1) fun vl s2 ⟨l, H2, I2, pl, q2⟩ => thn (hu pins s2 σ H2 _ I2 q2) fun vu s3 ⟨u, H3, I3, pu, q3⟩ => thn (hk pins s3 σ H3 _ I3 q3) fun vk s4 ⟨k, H4, I4, pk, q4⟩ => ?_)
  obtain ⟨a, xs, rfl, rfl, rfl, rfl, hx, q⟩ := q4
  cases pl
  cases pu
  cases pk with
  | int i t =>
    cases r1
    have I5 : Inv X pins σ H4 { s4 with heap := s4.heap.push { cls := .type "slice", data := .fields #[.none, .none, .int (-1) t] } } := I4.kept (t' := s4.toks) fun b ob q => Heap.get?_push_of_some _ q
    obtain ⟨its, r, ht, hz⟩ := I5.list hx
    have hlen : its.toArray.size = xs.length := by rw [List.size_toArray]; exact r.length.symm
    show wpAny (model X.prog X.w) X.A (subscriptTail e (.Slice lo hi (some st) p2) (.ref a) (.ref s4.heap.objs.size)) (EP X pins σ Q) X.xe { s4 with heap := s4.heap.push { cls := .type "slice", data := .fields #[.none, .none, .int (-1) t] } }
    refine tail_any (ops := [.ref a, .ref s4.heap.objs.size]) ht.isList.typeIs list_getitem_lookup ?_ (by with_unfolding_all rfl)
    refine wpAny_getItem_list_slice (lo := none) (hi := none) (st := some (-1)) ht.isList (Heap.IsSliceOf.new ..) .none .none (.int _ _) (by decide) ?_ (by rw [hlen]; exact hz)
    rw [PySem.W.krv_pick]
    refine ⟨.ref _, _, I5.laid (o := .lst xs.reverse) (t' := s4.toks) (fun _ _ q => Heap.get?_push_of_some _ q) (Nat.le_refl _) ?_, rfl, q _ (I5.hok.fresh (Nat.le_refl _))⟩
    exact ⟨by rw [List.length_reverse]; exact hz, _, 0, paired_reverse r, Heap.get?_push_size _ rfl⟩
end
end L2
set_option Elab.async false
set_option linter.all false
set_option maxRecDepth 100000
set_option maxHeartbeats 1000000
namespace L2
open PySem PySem.Spec PyProof.Rows
def Its (x : Str) : It := ⟨fun i _ => i < x.cps.size, fun i H y H' => H' = H ∧ ∃ c, x.cps[i]? = some c ∧ y = .str ⟨#[c]⟩, fun i _ => x.cps.size ≤ i⟩
theorem turn_str {P : Program} {w : World} {K : PySem.W.Frag} {tg : Expr} (it : Addr) (x : Str) (t : Tok) : Turn P w K tg (Its x) [it] it (fun i h => h.IsStrIter it "str_ascii_iterator" x t i) where
  mem := by simp
  obj := fun i h st b hb => by
    have e : b = it := by simpa using hb
    subst e
    obtain ⟨o, e, c, d⟩ := st
    exact ⟨o, e, fun v z => by rw [d] at z; cases z⟩
  keep := fun i h h' st k => let ⟨o, ho, r⟩ := st; ⟨o, k it (by simp) o ho, r⟩
  item := by
    intro X hP hw hK hc i pins s σ H E I hf st hg
    subst hP hw hK
    obtain ⟨f0, f1, f2, f3, f4, f5⟩ := hf it (by simp)
    have hg' : i < x.cps.size := hg
    refine wpAny_pyNext_ascii_item st (c := x.cps[i]) (by simp [hg']) fun h' st' sb => ?_
    have I1 : Inv X pins σ H { s with heap := h', toks := s.toks + 1 } := I.turned (fun b o hb e => (sb.2 b hb).trans e) f0 f1 f3 f4 f5
    obtain ⟨o, e, c, d⟩ := id st'
    exact ⟨_, rfl, go_of (s := { s with heap := h', toks := s.toks + 1 }) e c d (by decide) ⟨.str ⟨#[x.cps[i]]⟩, H, I1, ⟨_, rfl⟩, ⟨rfl, _, by simp [hg'], rfl⟩, st', fun b hb => (hf b hb).1⟩⟩
  done := by
    intro X hP hw hK hc i pins s σ H E I hf st hg
    subst hP hw hK
    obtain ⟨f0, f1, f2, f3, f4, f5⟩ := hf it (by simp)
    have hg' : x.cps.size ≤ i := hg
    exact wpAny_pyNext_ascii_end (I.ok.hd hc) st (by simp [hg']) fun h' eb => ⟨rfl, I.turned (t' := s.toks) (fun b o hb e => eb b o hb e) f0 f1 f3 f4 f5⟩
  self := fun _ _ _ _ _ st h => wpAny_pyIter_striter_ascii st h
def iStr (tl : TE) : TI := fun σ H R => tl σ H fun x H1 => ∃ z : Str, x = .str z ∧ z.cps.all (· < 128) = true ∧ R (Its z) H1
section
variable {X : Cx} {tg : Expr}
theorem pi_str {l : Expr} {tl : TE} (hl : PE X l tl) : PI X tg l (iStr tl) := by
  intro pins s σ H R I h
  refine thn (hl pins s σ H _ I h) fun v s1 ⟨x, H1, I1, r1, q1⟩ => ?_
  obtain ⟨z, rfl, ha, q⟩ := q1
  obtain ⟨t, rfl⟩ := r1
  refine wpAny_pyIter_ascii ha ?_
  refine ⟨s1.heap.objs.size, [s1.heap.objs.size], _, _, H1, rfl, I1.kept (t' := s1.toks) fun b o e => Heap.get?_push_of_some _ e, turn_str _ z t, ⟨_, Heap.get?_push_size _ rfl, rfl, rfl⟩, fun b hb => ?_, q⟩
  have e : b = s1.heap.objs.size := by simpa using hb
  subst e
  exact I1.fpOk (Nat.le_refl _) (I1.hok.fresh (Nat.le_refl _))
end
theorem for_str {z : Str} {g : TG} {tb : TS} {D : Ends} {σ : St} {H : Hp} (Pv : Nat → St → Hp → Prop) (h0 : Pv 0 σ H)
    (hs : ∀ i c σ H, z.cps[i]? = some c → Pv i σ H → g (.str ⟨#[c]⟩) σ H fun σ2 H2 => tb { D with nx := Pv (i + 1), ct := Pv (i + 1), bk := D.nx } σ2 H2) (hd : ∀ σ H, Pv z.cps.size σ H → D.nx σ H) :
    ∃ W : Nat → Nat → St → Hp → Prop, (∃ m, W 0 m σ H) ∧ ∀ i m σ H, W i m σ H →
      ((Its z).stop i H ∧ D.nx σ H) ∨ ((Its z).go i H ∧ ∃ N : St → Hp → Prop, (∀ σ' H', N σ' H' → ∃ m', m' < m ∧ W (i + 1) m' σ' H') ∧ ∀ x H', (Its z).yld i H x H' → g x σ H' fun σ2 H2 => tb { D with nx := N, ct := N, bk := D.nx } σ2 H2) := by
  refine ⟨fun i m σ H => m = z.cps.size - i ∧ i ≤ z.cps.size ∧ Pv i σ H, ⟨z.cps.size, by simp, Nat.zero_le _, h0⟩, ?_⟩
  rintro i m σ H ⟨rfl, hi, p⟩
  by_cases hlt : i < z.cps.size
  · refine .inr ⟨hlt, Pv (i + 1), fun σ' H' p' => ⟨z.cps.size - (i + 1), by omega, rfl, hlt, p'⟩, fun x H' y => ?_⟩
    obtain ⟨rfl, c, hc, rfl⟩ := y
    exact hs i c σ _ hc p
  · have e : i = z.cps.size := by omega
    subst e
    exact .inl ⟨Nat.le_refl _, hd _ _ p⟩
section
variable {X : Cx} {e : Expr} {lo hi : Option Expr} {st : Expr} {te : TE} {tl th tk : TO} {p2 pos : Pos}
def revStr (x : Str) : Str := ⟨x.cps.reverse⟩
theorem picked_rev (x : Str) (t : Tok) : ((slicePicked x none none (some (-1, t))).filterMap (x.cps[·]?)).toArray = x.cps.reverse := by
  have e : slicePicked x none none (some (-1, t)) = (List.range x.cps.size).reverse := by
    have h : slicePicked x none none (some (-1, t)) = sliceRange ((x.cps.size : Int) - 1) (-1) (-1) := rfl
    rw [h, PySem.W.krv_sliceRange, PySem.W.krv_range]
  rw [e, List.filterMap_reverse, PySem.W.krv_all, ← Array.toList_reverse]
def rRevS (x : V) (l u k : Option Int) : Hp → VK → Prop := fun H Q => ∃ z : Str, l = none ∧ u = none ∧ k = some (-1) ∧ x = .str z ∧ z.length ≤ sizeLine ∧ Q (.str (revStr z)) H
def tRevS (te : TE) (tl th tk : TO) : TE := fun σ H Q => te σ H fun x H1 => tl σ H1 fun l H2 => th σ H2 fun u H3 => tk σ H3 fun k H4 => rRevS x l u k H4 Q
theorem pe_revS (he : PE X e te) (hl : PO X lo tl) (hu : PO X hi th) (hk : PO X (some st) tk) : PE X (.Subscript e (.Slice lo hi (some st) p2) pos) (tRevS te tl th tk) := by
  intro pins s σ H Q I h
  refine Subscript_ (thn (he pins s σ H _ I h) fun v s1 ⟨x, H1, I1, r1, q1⟩ => ?_)
  refine wpAny_Slice (thn (hl pins s1 σ H1 _ I1 q1) fun vl s2 ⟨l, H2, I2, pl, q2⟩ => thn (hu pins s2 σ H2 _ I2 q2) fun vu s3 ⟨u, H3, I3, pu, q3⟩ => thn (hk pins s3 σ H3 _ I3 q3) fun vk s4 ⟨k, H4, I4, pk, q4⟩ => ?_)
  obtain ⟨z, rfl, rfl, rfl, rfl, hz, q⟩ := q4
  cases pl
  cases pu
  cases pk with
  | int i t =>
    obtain ⟨t0, rfl⟩ := r1
    have I5 : Inv X pins σ H4 { s4 with heap := s4.heap.push { cls := .type "slice", data := .fields #[.none, .none, .int (-1) t] } } := I4.kept (t' := s4.toks) fun b ob q => Heap.get?_push_of_some _ q
    show wpAny (model X.prog X.w) X.A (subscriptTail e (.Slice lo hi (some st) p2) (.str z t0) (.ref s4.heap.objs.size)) (EP X pins σ Q) X.xe { s4 with heap := s4.heap.push { cls := .type "slice", data := .fields #[.none, .none, .int (-1) t] } }
    refine tail_any (ops := [.str z t0, .ref s4.heap.objs.size]) (typeIs_str _ _ _) PySem.F.slot_str_getitem.lookup ?_ (by with_unfolding_all rfl)
    refine wpAny_getItem_str_slice (l := none) (u := none) (st := some (-1, t)) ⟨_, Heap.get?_push_size _ rfl, rfl, rfl⟩ rfl ?_
    have e1 : sliceMade z t0 none none (some (-1, t)) = .str (revStr z) := by
      unfold sliceMade
      rw [picked_rev]
      rfl
    rw [e1]
    exact ⟨by show z.cps.reverse.size ≤ sizeLine; rw [Array.size_reverse]; exact hz, ⟨.str _, H4, I5.tok _, ⟨_, rfl⟩, q⟩⟩
end
section
variable {X : Cx}
def rIndex : V → List V → Hp → VK → Prop := fun x vs H Q => ∃ (z y : Str) (i : Nat) (rest : List Nat), x = .str z ∧ vs = [.str y] ∧ Builtin.Str.occurrences z y 0 z.length 1 = i :: rest ∧ Q (.int (i : Nat)) H
theorem mt_index : MtM X "str.index" rIndex := by
  intro pins s σ H x vs v us Q I rx rv h
  obtain ⟨z, y, i, rest, rfl, rfl, ho, q⟩ := h
  obtain ⟨t, rfl⟩ := rx
  obtain ⟨u, rfl, ru⟩ := rv.one
  obtain ⟨t2, rfl⟩ := ru
  exact call_gives PySem.F.slot_str_index (typeIs_str _ _ _) PySem.F.entry_str_index (PySem.F.args_str_index_2 _ _) (gives_str_index z y t t2 i rest ho) ⟨.int _, H, I.tok _, ⟨_, rfl⟩, q⟩
theorem op_mulS : OpR X (binaryOp .Mult) (fun x y H Q => ∃ (z : Str) (n : Int), x = .str z ∧ y = .int n ∧ 0 ≤ n ∧ n ≤ 1000 ∧ z.length ≤ 1000 ∧ Q (.str (Txt.mul z n)) H) := by
  intro pins s σ H x y v u Q I rx ry h
  obtain ⟨z, n, rfl, rfl, h0, h1, h2, q⟩ := h
  obtain ⟨t, rfl⟩ := rx
  obtain ⟨t', rfl⟩ := ry
  refine SB.mul ⟨?_, ?_, ?_⟩ fun t' k => ⟨.str _, H, I.tok k, ⟨t', rfl⟩, q⟩
  · have a : ¬ n < -(2 ^ 63 : Int) := by omega
    have b : ¬ n ≥ 2 ^ 63 := by omega
    simp only [a, b, decide_false, Bool.or_self]
  · intro a b c
    have e : (1000 : Int) ≤ (2 ^ 63 - 1) / n := by
      rw [Int.le_ediv_iff_mul_le (by omega)]
      omega
    omega
  · intro a b
    have h3 : z.length * n.toNat ≤ 1000 * 1000 := Nat.mul_le_mul h2 (by omega)
    have h4 : (1000 * 1000 : Nat) ≤ sizeLine := by decide
    exact decide_eq_false (by omega)
def rMinI (K : PySem.W.Frag) : List V → Hp → VK → Prop := fun xs H Q => ∃ (a : Addr) (ns : List Int), xs = [.ref a] ∧ SqL K H a (ns.map V.int) ∧ ns ≠ [] ∧ ∀ m : Int, m ∈ ns → Q (.int m) H
theorem call_minK (K : PySem.W.Frag) (hc : X.calm = true) (hK : X.K = K := by rfl) : CallR X (.builtin "min") (rMinI K) := by
  subst hK
  intro pins s σ H xs us Q I r h
  obtain ⟨a, ns, rfl, hq, hne, q⟩ := h
  obtain ⟨u, rfl, ru⟩ := vals1 r
  cases ru
  obtain ⟨its, rv, p, _⟩ := I.list hq
  have hi : IntsAre its ns := intsAre_of rv
  obtain ⟨xs, e⟩ := hi.allInts.items
  have hns : ns = xs.toList.map (·.1) := by rw [← hi.numsOf, ← nums_intItems, ← e]
  have hsz : 0 < xs.size := by
    rcases Nat.eq_zero_or_pos xs.size with z | z
    · have : xs.toList = [] := List.eq_nil_of_length_eq_zero (by rw [Array.length_toList]; exact z)
      exact absurd (by rw [hns, this]; rfl) hne
    · exact z
  have hl := p.isList
  rw [e] at hl
  refine min_intList (I.ok.hd hc) hl hsz fun v h' tk hv hk => ?_
  obtain ⟨t, rfl⟩ := intItems_at hv
  obtain ⟨h1, h2⟩ := argBest_lt (numAt xs) (xs.size - 1)
  have na : ∀ j, j < xs.size → ns[j]? = some (numAt xs j) := fun j hj => by
    rw [hns, List.getElem?_map, Array.getElem?_toList, numAt, Array.getElem?_eq_getElem hj]
    rfl
  exact ⟨.int _, H, I.kept hk, ⟨t, rfl⟩, q _ (List.mem_of_getElem? (na _ (by omega)))⟩
end
end L2
set_option Elab.async false
set_option linter.all false
set_option maxRecDepth 100000
set_option maxHeartbeats 4000000
namespace My
open PySem L2
def top (i : Nat) : Stmt := PySem.Challenge.pw_figurejudge_k32_what_machines_say.main.body.getD i (.Pass ⟨0, 0, 0, 0⟩)
abbrev s_figures_of : Stmt := top 1
abbrev s_letter_at : Stmt := top 2
abbrev s_letters_of : Stmt := top 3
abbrev s_room_after : Stmt := top 5
abbrev s_says_yes : Stmt := top 7
abbrev s_l_feed : Stmt := top 9
abbrev s_l_draw : Stmt := top 10
abbrev s_l_after : Stmt := top 11
abbrev s_l_names : Stmt := top 12
abbrev s_l_great : Stmt := top 13
abbrev s_l_rings : Stmt := top 14
abbrev s_l_machine : Stmt := top 15
abbrev s_l_says : Stmt := top 16
abbrev s_law : Stmt := top 17
structure Adr where
  f_figures_of : Addr
  fd_figures_of : FuncData
  f_letter_at : Addr
  fd_letter_at : FuncData
  f_letters_of : Addr
  fd_letters_of : FuncData
  f_room_after : Addr
  fd_room_after : FuncData
  f_says_yes : Addr
  fd_says_yes : FuncData
  f_l_feed : Addr
  fd_l_feed : FuncData
  f_l_draw : Addr
  fd_l_draw : FuncData
  f_l_after : Addr
  fd_l_after : FuncData
  f_l_names : Addr
  fd_l_names : FuncData
  f_l_great : Addr
  fd_l_great : FuncData
  f_l_rings : Addr
  fd_l_rings : FuncData
  f_l_machine : Addr
  fd_l_machine : FuncData
  f_l_says : Addr
  fd_l_says : FuncData
  f_law : Addr
  fd_law : FuncData
structure Txt (K : PySem.W.Frag) (mg : Str → Option Value) (a : Adr) : Prop where
  F_figures_of : Fun K "figures_of" "figures_of" s_figures_of a.f_figures_of a.fd_figures_of
  m_figures_of : mg "figures_of" = some (.ref a.f_figures_of)
  k_figures_of : PySem.W.keepIn K (.ref a.f_figures_of) = true
  b_figures_of : Binds K a.fd_figures_of ["base", "number"] []
  F_letter_at : Fun K "letter_at" "letter_at" s_letter_at a.f_letter_at a.fd_letter_at
  m_letter_at : mg "letter_at" = some (.ref a.f_letter_at)
  k_letter_at : PySem.W.keepIn K (.ref a.f_letter_at) = true
  b_letter_at : Binds K a.fd_letter_at ["base", "rows", "place"] []
  F_letters_of : Fun K "letters_of" "letters_of" s_letters_of a.f_letters_of a.fd_letters_of
  m_letters_of : mg "letters_of" = some (.ref a.f_letters_of)
  k_letters_of : PySem.W.keepIn K (.ref a.f_letters_of) = true
  b_letters_of : Binds K a.fd_letters_of ["base", "numbers"] []
  F_room_after : Fun K "room_after" "room_after" s_room_after a.f_room_after a.fd_room_after
  m_room_after : mg "room_after" = some (.ref a.f_room_after)
  k_room_after : PySem.W.keepIn K (.ref a.f_room_after) = true
  b_room_after : Binds K a.fd_room_after ["moves", "room", "figures"] []
  F_says_yes : Fun K "says_yes" "says_yes" s_says_yes a.f_says_yes a.fd_says_yes
  m_says_yes : mg "says_yes" = some (.ref a.f_says_yes)
  k_says_yes : PySem.W.keepIn K (.ref a.f_says_yes) = true
  b_says_yes : Binds K a.fd_says_yes ["base", "machine", "numbers"] []
  F_l_feed : Fun K "_law_feed" "_law_feed" s_l_feed a.f_l_feed a.fd_l_feed
  m_l_feed : mg "_law_feed" = some (.ref a.f_l_feed)
  k_l_feed : PySem.W.keepIn K (.ref a.f_l_feed) = true
  b_l_feed : Binds K a.fd_l_feed ["_law_script"] []
  F_l_draw : Fun K "_law_draw" "_law_draw" s_l_draw a.f_l_draw a.fd_l_draw
  m_l_draw : mg "_law_draw" = some (.ref a.f_l_draw)
  k_l_draw : PySem.W.keepIn K (.ref a.f_l_draw) = true
  b_l_draw : Binds K a.fd_l_draw ["_law_feed_here", "_law_many"] []
  F_l_after : Fun K "_law_after" "_law_after" s_l_after a.f_l_after a.fd_l_after
  m_l_after : mg "_law_after" = some (.ref a.f_l_after)
  k_l_after : PySem.W.keepIn K (.ref a.f_l_after) = true
  b_l_after : Binds K a.fd_l_after ["_law_word"] []
  F_l_names : Fun K "_law_names" "_law_names" s_l_names a.f_l_names a.fd_l_names
  m_l_names : mg "_law_names" = some (.ref a.f_l_names)
  k_l_names : PySem.W.keepIn K (.ref a.f_l_names) = true
  b_l_names : Binds K a.fd_l_names ["_law_feed_here", "_law_many"] []
  F_l_great : Fun K "_law_great" "_law_great" s_l_great a.f_l_great a.fd_l_great
  m_l_great : mg "_law_great" = some (.ref a.f_l_great)
  k_l_great : PySem.W.keepIn K (.ref a.f_l_great) = true
  b_l_great : Binds K a.fd_l_great ["_law_feed_here"] []
  F_l_rings : Fun K "_law_rings" "_law_rings" s_l_rings a.f_l_rings a.fd_l_rings
  m_l_rings : mg "_law_rings" = some (.ref a.f_l_rings)
  k_l_rings : PySem.W.keepIn K (.ref a.f_l_rings) = true
  b_l_rings : Binds K a.fd_l_rings ["_law_moves"] []
  F_l_machine : Fun K "_law_machine" "_law_machine" s_l_machine a.f_l_machine a.fd_l_machine
  m_l_machine : mg "_law_machine" = some (.ref a.f_l_machine)
  k_l_machine : PySem.W.keepIn K (.ref a.f_l_machine) = true
  b_l_machine : Binds K a.fd_l_machine ["_law_feed_here", "_law_base", "_law_names_here", "_law_most"] []
  F_l_says : Fun K "_law_says" "_law_says" s_l_says a.f_l_says a.fd_l_says
  m_l_says : mg "_law_says" = some (.ref a.f_l_says)
  k_l_says : PySem.W.keepIn K (.ref a.f_l_says) = true
  b_l_says : Binds K a.fd_l_says ["_law_base", "_law_machine_here", "_law_numbers"] []
  F_law : Fun K "law" "law" s_law a.f_law a.fd_law
  m_law : mg "law" = some (.ref a.f_law)
  z_max : mg "max" = none
  z_range : mg "range" = none
  z_tuple : mg "tuple" = none
  z_list : mg "list" = none
  z_abs : mg "abs" = none
  z_sorted : mg "sorted" = none
  z_len : mg "len" = none
  z_sum : mg "sum" = none
  z_min : mg "min" = none
  z_isinstance : mg "isinstance" = none
  z_bool : mg "bool" = none
theorem while_m {c : TT} {tb : TS} {D : Ends} {σ : St} {H : Hp} (W : Nat → St → Hp → Prop) (h0 : ∃ m, W m σ H)
    (hs : ∀ m σ H, W m σ H → c σ H fun b H1 => if b = true then tb { D with nx := fun σ' H' => ∃ m', m' < m ∧ W m' σ' H', ct := fun σ' H' => ∃ m', m' < m ∧ W m' σ' H', bk := D.nx } σ H1 else D.nx σ H1)
    (mono : ∀ σ H Q Q', (∀ b H1, Q b H1 → Q' b H1) → c σ H Q → c σ H Q') : tWhile c tb D σ H := by
  refine ⟨W, h0, fun m σ H w => mono σ H _ _ (fun b H1 q => ?_) (hs m σ H w)⟩
  cases b with
  | true => exact ⟨_, fun σ' H' p => p, q⟩
  | false => exact q
theorem dgetR {H : Hp} {D : Addr} {kvs : List (Key × V)} {x : Str} {v : V} (h : Rd H D (.dK kvs)) (e : valV kvs (Sum.inr x) = some v) : DGet H D (.str x) (some v) := .inl ⟨kvs, Sum.inr x, h, rfl, e.symm⟩
def fd (L : Addr) (n sd : Int) : List (Key × V) := [(Sum.inr ("left" : Str), .ref L), (Sum.inr ("number" : Str), .int n), (Sum.inr ("seed" : Str), .int sd)]
theorem fd_left (L : Addr) (n sd : Int) : valV (fd L n sd) (Sum.inr ("left" : Str)) = some (.ref L) := valV_pos rfl
theorem fd_number (L : Addr) (n sd : Int) : valV (fd L n sd) (Sum.inr ("number" : Str)) = some (.int n) := by
  unfold fd
  rw [valV_neg (show ¬ ((Sum.inr ("left" : Str) : Key) = Sum.inr ("number" : Str)) by decide +kernel), valV_pos rfl]
theorem fd_seed (L : Addr) (n sd : Int) : valV (fd L n sd) (Sum.inr ("seed" : Str)) = some (.int sd) := by
  unfold fd
  rw [valV_neg (show ¬ ((Sum.inr ("left" : Str) : Key) = Sum.inr ("seed" : Str)) by decide +kernel), valV_neg (show ¬ ((Sum.inr ("number" : Str) : Key) = Sum.inr ("seed" : Str)) by decide +kernel), valV_pos rfl]
theorem fd_putN (L : Addr) (n sd v : Int) : putK (fd L n sd) (Sum.inr ("number" : Str)) (.int v) = fd L v sd := by
  unfold putK fd
  have a1 : ¬ ((Sum.inr ("left" : Str) : Key) = Sum.inr ("number" : Str)) := by decide +kernel
  have a2 : ¬ ((Sum.inr ("seed" : Str) : Key) = Sum.inr ("number" : Str)) := by decide +kernel
  simp only [List.any_cons, List.any_nil, List.map_cons, List.map_nil, a1, a2, if_false, if_true, decide_true, decide_false, Bool.true_or, Bool.or_true]
theorem fd_putS (L : Addr) (n sd v : Int) : putK (fd L n sd) (Sum.inr ("seed" : Str)) (.int v) = fd L n v := by
  unfold putK fd
  have a1 : ¬ ((Sum.inr ("left" : Str) : Key) = Sum.inr ("seed" : Str)) := by decide +kernel
  have a2 : ¬ ((Sum.inr ("number" : Str) : Key) = Sum.inr ("seed" : Str)) := by decide +kernel
  simp only [List.any_cons, List.any_nil, List.map_cons, List.map_nil, a1, a2, if_false, if_true, decide_true, decide_false, Bool.true_or, Bool.or_true]
structure Feed (H : Hp) (F L : Addr) : Prop where
  ex : ∃ (ms : List Int) (n sd : Int), H F = some (.dK (fd L n sd)) ∧ H L = some (.lst (ms.map V.int)) ∧ 0 ≤ n ∧ (∀ m ∈ ms, 0 ≤ m) ∧ 0 ≤ sd ∧ sd < 2147483648
theorem Feed.same {H H' : Hp} {F L : Addr} (h : Feed H F L) (s : Same H H') : Feed H' F L := by
  obtain ⟨ms, n, sd, a, b, c⟩ := h.ex
  exact ⟨ms, n, sd, s _ _ a, s _ _ b, c⟩
def spDraw : Sp := fun vs H Q _ => ∃ (F L : Addr) (m : Nat), vs = [.ref F, .int m] ∧ Feed H F L ∧ 0 < m ∧ m < 2 ^ 1000 ∧ ∀ (r : Nat) (H' : Hp), r < m → KB2 F L H H' → Feed H' F L → Q (.int (r : Nat)) H'
section
variable {P : Program} {w : World} {K : PySem.W.Frag} {mg : Str → Option Value} {base : Heap}
theorem sc_l_draw : FnScope ["_law_feed_here", "_law_many", "_law_found", "_law_one", "_law_two"] ["_law_feed_here", "_law_many"] (defScope s_l_draw) := ⟨rfl, rfl, rfl, by decide +kernel, rfl, by decide +kernel, by decide +kernel⟩
theorem ok_l_draw {a : Adr} (T : Txt K mg a) : FnOk P w K mg base CX0 1 a.f_l_draw a.fd_l_draw ["_law_feed_here", "_law_many"] spDraw := by
  refine T.F_l_draw.ok sc_l_draw (fun vs H Q E h => ?_) (fun cdv A outer s H vs Q E hr h => ?_)
  · obtain ⟨F, L, m, rfl, _⟩ := h
    rfl
  · obtain ⟨F, L, many, rfl, hf, hm0, hm1, k⟩ := h
    refine ⟨_, (pss_cons (ps_while PassesOwn.never (PW.pt (pw_and (pt_cmpR op_eq (pe_dget (hu_of hr) (pv 0) pe_str (fun _ _ => rfl)) pe_int (nomark _)) (pw_and1 (pt_cmpR (op_neD K hr.units) (pe_dget (hu_of hr) (pv 0) pe_str (fun _ _ => rfl)) (pe_lst pa_nil) (nomark _)))))
      (pss_one (ps_dput (hu_of hr) (pv 0) pe_str (pe_bm0 PySem.F.plainAttrs_list PySem.F.slot_list_pop PySem.F.type_list_pop mt_pop (pe_dget (hu_of hr) (pv 0) pe_str (fun _ _ => rfl))) rfl)))
    (pss_cons (ps_if (pt_cmpR op_gt (pe_dget (hu_of hr) (pv 0) pe_str (fun _ _ => rfl)) pe_int (nomark _))
      (pss_cons (ps_set (i := 2) sc_l_draw.nd rfl (Or.inl rfl) (pe_op op_modP (pe_dget (hu_of hr) (pv 0) pe_str (fun _ _ => rfl)) (pv 1)))
      (pss_cons (ps_dput (hu_of hr) (pv 0) pe_str (pe_op op_fdivB (pe_dget (hu_of hr) (pv 0) pe_str (fun _ _ => rfl)) (pv 1)) rfl)
      (pss_one (ps_ret (pv 2)))))
      pss_nil)
    (pss_cons (ps_set (i := 3) sc_l_draw.nd rfl (Or.inl rfl) (pe_op op_modP (pe_op op_add (pe_op op_mul (pe_dget (hu_of hr) (pv 0) pe_str (fun _ _ => rfl)) pe_int) pe_int) pe_int))
    (pss_cons (ps_dput (hu_of hr) (pv 0) pe_str (pe_op op_modP (pe_op op_add (pe_op op_mul (pv 3) pe_int) pe_int) pe_int) rfl)
    (pss_cons (ps_set (i := 4) sc_l_draw.nd rfl (Or.inl rfl) (pe_op op_modP (pe_op op_mul (pe_dget (hu_of hr) (pv 0) pe_str (fun _ _ => rfl)) (pe_dget (hu_of hr) (pv 0) pe_str (fun _ _ => rfl))) pe_int))
    (pss_one (ps_ret (pe_op op_modP (pe_op op_add (pe_op op_mul (pe_op op_modP (pe_op op_mul (pv 3) (pv 3)) pe_int) pe_int) (pv 4)) (pv 1))))))))), ?_⟩
    obtain ⟨ms0, n0, sd0, e0, l0, hn0, hms0, hs0, hs1⟩ := hf.ex
    have nFL : F ≠ L := ne_of e0 l0 (fun z => nomatch z)
    have put : ∀ {H' : Hp} {kv : List (Key × V)}, H' F = some (.dK kv) → kv.length = 3 → kv.length < sizeLine := fun _ z => by rw [z]; decide
    refine while_m (fun m σ H' => ∃ (ms : List Int) (n sd : Int), m = ms.length ∧ σ = [some (.ref F), some (.int (many : Nat)), none, none, none] ∧ KB2 F L H H' ∧ H' F = some (.dK (fd L n sd)) ∧ H' L = some (.lst (ms.map V.int)) ∧ 0 ≤ n ∧ (∀ m ∈ ms, 0 ≤ m) ∧ 0 ≤ sd ∧ sd < 2147483648)
      ⟨_, ms0, n0, sd0, rfl, rfl, fun b o e _ _ => e, e0, l0, hn0, hms0, hs0, hs1⟩ ?_ ?_
    · rintro m σ H1 ⟨ms, n, sd, rfl, rfl, k1, e1, l1, hn, hms, hs, hs'⟩
      have fin3 : ∀ kv : List (Key × V), kv.length = 3 → kv.length < sizeLine := fun kv z => by rw [z]; decide
      refine ⟨_, rfl, F, .int n, rfl, dgetR (.inl e1) (fd_number ..), rfl, _, rfl, ?_⟩
      refine ite2 (fun hz => ?_) (fun hz => ?_)
      · have hz' : n = 0 := V.int.inj (of_decide_eq_true hz)
        subst hz'
        refine ⟨_, rfl, F, .ref L, rfl, dgetR (.inl e1) (fd_left ..), by decide, fun E hE => ?_⟩
        have sE := Same.new (o := .lst []) hE
        have e2 := sE _ _ e1
        have l2 := sE _ _ l1
        have k2 : KB2 F L H (upd H1 E (.lst [])) := k1.trans sE.kb2
        refine ⟨⟨.lst (ms.map .int), .lst [], dat_lst (.of l2) (dats_ints ms), dat_lst (.of upd_same) dats_nil, rfl, rfl, ?dep, _, rfl, ?_⟩, .lst (ms.map .int), .lst [], dat_lst (.of l2) (dats_ints ms), dat_lst (.of upd_same) dats_nil, .inr ⟨_, _, rfl, rfl⟩⟩
        case dep => rw [Dt.dep, deps_ints]; decide
        have eb : (if true = true then !(Dt.lst (ms.map .int)).beq (.lst []) else (Dt.lst (ms.map .int)).beq (.lst [])) = decide (ms ≠ []) := by
          rw [if_pos rfl, Dt.beq]
          cases ms with
          | nil => simp [Dt.beqs]
          | cons y ys => simp [Dt.beqs]
        rw [eb]
        generalize upd H1 E (.lst []) = H2 at e2 l2 k2 ⊢
        refine ite2 (fun hne => ?_) (fun hem => ?_)
        · have hne' : ms ≠ [] := of_decide_eq_true hne
          have hl : 0 < ms.length := List.length_pos_iff.mpr hne'
          obtain ⟨x, hx⟩ : ∃ x, ms[ms.length - 1]? = some x := ⟨_, List.getElem?_eq_getElem (by omega)⟩
          have hx0 := hms x (List.mem_of_getElem? hx)
          refine ⟨_, rfl, F, .ref L, rfl, dgetR (.inl e2) (fd_left ..), .inl ⟨rfl, _, .of l2⟩, L, _, .int x, rfl, rfl, l2, by rw [List.length_map, List.getElem?_map, hx]; rfl, ?_⟩
          have e3 : (upd H2 L (.lst (ms.map V.int).dropLast)) F = some (.dK (fd L 0 sd)) := by rw [upd_ne nFL]; exact e2
          refine ⟨_, rfl, F, _, rfl, DPut.k (k := Sum.inr ("number" : Str)) e3 (fin3 _ rfl), ?_⟩
          refine ⟨ms.dropLast.length, by rw [List.length_dropLast]; omega, ms.dropLast, x, sd, rfl, rfl, ?_, ?_, ?_, hx0, fun m hm => hms m (List.dropLast_subset _ hm), hs, hs'⟩
          · exact k2.trans ((KB.r KB.write).trans (KB.l KB.write))
          · rw [upd_same, fd_putN]
          · rw [upd_ne nFL.symm, upd_same, List.map_dropLast]
        ·
          refine ⟨_, rfl, F, .int 0, rfl, dgetR (.inl e2) (fd_number ..), _, _, rfl, rfl, _, rfl, ?_⟩
          refine ite2 (fun z => absurd (of_decide_eq_true z) (by decide)) (fun _ => ?_)
          refine ⟨_, rfl, F, .int sd, rfl, dgetR (.inl e2) (fd_seed ..), _, _, rfl, rfl, .inr (by constructor <;> decide), _, _, rfl, rfl, _, _, rfl, rfl, cpos (by decide), ?_⟩
          have o0 : 0 ≤ (sd * 48271 + 7919) % 2147483647 := Int.emod_nonneg _ (by decide)
          have o1 : (sd * 48271 + 7919) % 2147483647 < 2147483647 := Int.emod_lt_of_pos _ (by decide)
          dsimp only [gName]
          generalize (sd * 48271 + 7919) % 2147483647 = one at o0 o1 ⊢
          refine ⟨_, rfl, _, _, rfl, rfl, .inr (by constructor <;> decide), _, _, rfl, rfl, _, _, rfl, rfl, cpos (by decide), _, rfl, F, _, rfl, DPut.k (k := Sum.inr ("seed" : Str)) e2 (fin3 _ rfl), ?_⟩
          have t0 : 0 ≤ (one * 40692 + 104729) % 2147483399 := Int.emod_nonneg _ (by decide)
          have t1 : (one * 40692 + 104729) % 2147483399 < 2147483399 := Int.emod_lt_of_pos _ (by decide)
          rw [fd_putS]
          generalize (one * 40692 + 104729) % 2147483399 = s2 at t0 t1 ⊢
          have e3 : (upd H2 F (.dK (fd L 0 s2))) F = some (.dK (fd L 0 s2)) := upd_same
          have l3 : (upd H2 F (.dK (fd L 0 s2))) L = some (.lst (ms.map V.int)) := by rw [upd_ne nFL.symm]; exact l2
          have k3 : KB2 F L H (upd H2 F (.dK (fd L 0 s2))) := k2.trans (KB.l KB.write)
          generalize upd H2 F (.dK (fd L 0 s2)) = H3 at e3 l3 k3 ⊢
          refine ⟨_, rfl, F, .int s2, rfl, dgetR (.inl e3) (fd_seed ..), _, rfl, F, .int s2, rfl, dgetR (.inl e3) (fd_seed ..), _, _, rfl, rfl, .inl (by constructor <;> omega), _, _, rfl, rfl, cpos (by decide), ?_⟩
          refine ⟨_, rfl, _, rfl, _, _, rfl, rfl, .inl (by constructor <;> omega), _, _, rfl, rfl, cpos (by decide), _, _, rfl, rfl, .inr (by constructor <;> decide), _, rfl, _, _, rfl, rfl, _, rfl, _, _, rfl, rfl, cpos (by omega), ?_⟩
          have f0 : 0 ≤ (one * one % 2147483629 * 2147483563 + s2 * s2 % 2147483563) % (many : Int) := Int.emod_nonneg _ (by omega)
          have f1 : (one * one % 2147483629 * 2147483563 + s2 * s2 % 2147483563) % (many : Int) < (many : Int) := Int.emod_lt_of_pos _ (by omega)
          obtain ⟨r, hr'⟩ : ∃ r : Nat, (one * one % 2147483629 * 2147483563 + s2 * s2 % 2147483563) % (many : Int) = (r : Int) := ⟨_, (Int.toNat_of_nonneg f0).symm⟩
          have := k r H3 (by omega) k3 ⟨ms, 0, s2, e3, l3, Int.le_refl _, hms, t0, by omega⟩
          rw [← hr'] at this
          exact this
      ·
        have hn0' : 0 < n := by
          have : n ≠ 0 := fun z => hz (by rw [z]; simp)
          omega
        refine iteF ⟨_, rfl, F, .int n, rfl, dgetR (.inl e1) (fd_number ..), _, _, rfl, rfl, _, rfl, ?_⟩
        refine ite2 (fun _ => ?_) (fun z => absurd (decide_eq_true hn0') z)
        refine ⟨_, rfl, F, .int n, rfl, dgetR (.inl e1) (fd_number ..), _, rfl, _, _, rfl, rfl, cpos (by omega), ?_⟩
        refine ⟨_, rfl, F, .int n, rfl, dgetR (.inl e1) (fd_number ..), _, rfl, _, _, rfl, rfl, ⟨by omega, ?log⟩, _, rfl, F, _, rfl, DPut.k (k := Sum.inr ("number" : Str)) e1 (fin3 _ rfl), ?_⟩
        case log =>
          rw [Int.natAbs_natCast, Nat.log2_lt (by omega)]
          exact Nat.lt_of_lt_of_le hm1 (Nat.pow_le_pow_right (by decide) (by decide))
        refine ⟨_, rfl, ?_⟩
        have f0 : 0 ≤ n % (many : Int) := Int.emod_nonneg _ (by omega)
        have f1 : n % (many : Int) < (many : Int) := Int.emod_lt_of_pos _ (by omega)
        obtain ⟨r, hr'⟩ : ∃ r : Nat, n % (many : Int) = (r : Int) := ⟨_, (Int.toNat_of_nonneg f0).symm⟩
        rw [fd_putN]
        have := k r (upd H1 F (.dK (fd L (n / (many : Int)) sd))) (by omega) (k1.trans (KB.l KB.write)) ⟨ms, n / (many : Int), sd, upd_same, by rw [upd_ne nFL.symm]; exact l1, Int.ediv_nonneg hn (by omega), hms, hs, hs'⟩
        rw [← hr'] at this
        exact this
    · rintro σ H Q Q' hQ ⟨v, e1, a, y, e2, e3, e4, b, e5, q⟩
      refine ⟨v, e1, a, y, e2, e3, e4, b, e5, ?_⟩
      revert q
      cases b with
      | false => exact fun q => hQ _ _ q
      | true =>
        rintro ⟨v, e1, a, y, e2, e3, z, q⟩
        refine ⟨v, e1, a, y, e2, e3, z, fun p hp => ?_⟩
        obtain ⟨⟨d, d', a1, a2, a3, a4, a5, b, a6, q⟩, z2⟩ := q p hp
        exact ⟨⟨d, d', a1, a2, a3, a4, a5, b, a6, hQ _ _ q⟩, z2⟩
end
end My
set_option Elab.async false
set_option linter.all false
set_option maxRecDepth 100000
set_option maxHeartbeats 4000000
namespace My
open PySem L2
def spFeed (K : PySem.W.Frag) : Sp := fun vs H Q _ => ∃ (a : Addr) (ns : List Int), vs = [.ref a] ∧ SqL K H a (ns.map V.int) ∧ ns.length ≤ 63 ∧ ∀ (F L : Addr) (H' : Hp), H F = none → H L = none → Same H H' → Feed H' F L → Q (.ref F) H'
def spGreat : Sp := fun vs H Q _ => ∃ (F L : Addr), vs = [.ref F] ∧ Feed H F L ∧ ∀ (r : Nat) (H' : Hp), r < 10 ^ 60 → KB2 F L H H' → Feed H' F L → Q (.int (r : Nat)) H'
section
variable {P : Program} {w : World} {K : PySem.W.Frag} {mg : Str → Option Value} {base : Heap}
theorem sc_l_great : FnScope ["_law_feed_here", "_law_found", "_law_k", "_law_turn"] ["_law_feed_here"] (defScope s_l_great) := ⟨rfl, rfl, rfl, by decide +kernel, rfl, by decide +kernel, by decide +kernel⟩
theorem ok_l_great {a : Adr} (T : Txt K mg a) : FnOk P w K mg base CX0 2 a.f_l_great a.fd_l_great ["_law_feed_here"] spGreat := by
  have G_l_draw : FnOk P w K mg base CX0 1 a.f_l_draw a.fd_l_draw ["_law_feed_here", "_law_many"] spDraw := ok_l_draw T
  refine T.F_l_great.ok sc_l_great (fun vs H Q E h => ?_) (fun cdv A outer s H vs Q E hr h => ?_)
  · obtain ⟨F, L, rfl, _⟩ := h
    rfl
  · obtain ⟨F, L, rfl, hf, k⟩ := h
    have hr_l_draw : Room 1 _ := hr
    refine ⟨_, (pss_cons (ps_if (pt_cmpR op_eq (pe_call G_l_draw hr_l_draw rfl T.m_l_draw T.k_l_draw T.b_l_draw .nil pass0 (pa_cons (pv 0) (pa_cons pe_int pa_nil))) pe_int (nomark _))
      (pss_one (ps_ret (pe_call G_l_draw hr_l_draw rfl T.m_l_draw T.k_l_draw T.b_l_draw .nil pass0 (pa_cons (pv 0) (pa_cons pe_int pa_nil)))))
      pss_nil)
    (pss_cons (ps_set (i := 1) sc_l_great.nd rfl (Or.inl rfl) pe_int)
    (pss_cons (ps_for PassesOwn.never rfl (pi_range1 rfl T.z_range (pa_cons (pe_op op_add pe_int (pe_call G_l_draw hr_l_draw rfl T.m_l_draw T.k_l_draw T.b_l_draw .nil pass0 (pa_cons (pv 0) (pa_cons pe_int pa_nil)))) pa_nil)) (pg_name (i := 2) sc_l_great.nd rfl (Or.inl rfl))
      (pss_one (ps_set (i := 1) sc_l_great.nd rfl (Or.inl rfl) (pe_op op_add (pe_op op_mul (pv 1) (pe_op op_pow pe_int pe_int)) (pe_call G_l_draw hr_l_draw rfl T.m_l_draw T.k_l_draw T.b_l_draw .nil pass0 (pa_cons (pv 0) (pa_cons (pe_op op_pow pe_int pe_int) pa_nil)))))))
    (pss_cons (ps_for PassesOwn.never rfl (pi_range1 rfl T.z_range (pa_cons (pe_call G_l_draw hr_l_draw rfl T.m_l_draw T.k_l_draw T.b_l_draw .nil pass0 (pa_cons (pv 0) (pa_cons pe_int pa_nil))) pa_nil)) (pg_name (i := 3) sc_l_great.nd rfl (Or.inl rfl))
      (pss_one (ps_set (i := 1) sc_l_great.nd rfl (Or.inl rfl) (pe_op op_fdivB (pv 1) pe_int))))
    (pss_one (ps_ret (pv 1))))))), ?_⟩
    have p1 : (3 : Nat) < 2 ^ 1000 := Nat.lt_of_lt_of_le (show 3 < 2 ^ 2 by decide) (Nat.pow_le_pow_right (by decide) (by decide))
    have p40 : (40 : Nat) < 2 ^ 1000 := Nat.lt_of_lt_of_le (show 40 < 2 ^ 6 by decide) (Nat.pow_le_pow_right (by decide) (by decide))
    have p18 : (18 : Nat) < 2 ^ 1000 := Nat.lt_of_lt_of_le (show 18 < 2 ^ 6 by decide) (Nat.pow_le_pow_right (by decide) (by decide))
    have pg : (10 ^ 18 : Nat) < 2 ^ 1000 := Nat.lt_of_lt_of_le (show (10 ^ 18 : Nat) < 2 ^ 60 by decide) (Nat.pow_le_pow_right (by decide) (by decide))
    refine ⟨_, rfl, F, L, 3, rfl, hf, by decide, p1, fun r H1 r1 k1 f1 => ⟨rfl, _, rfl, ?_⟩⟩
    refine ite2 (fun _ => ?_) (fun _ => ?_)
    · exact ⟨_, rfl, F, L, 40, rfl, f1, by decide, p40, fun q H2 q1 k2 f2 => k q H2 (Nat.lt_of_lt_of_le (show q < 10 ^ 2 by omega) (Nat.pow_le_pow_right (by decide) (by decide))) (k1.trans k2) f2⟩
    · refine ⟨_, rfl, F, L, 3, rfl, f1, by decide, p1, fun t H2 t1 k2 f2 => ⟨_, _, rfl, rfl, _, rfl, by omega, by omega, for_range (n := (1 + (t : Int)).toNat) (fun i σ H' => ∃ (f : Nat) (v2 : Option V), σ = [some (.ref F), some (.int (f : Nat)), v2, none] ∧ KB2 F L H2 H' ∧ Feed H' F L ∧ f < (10 ^ 18) ^ i)
        ⟨0, none, rfl, fun b o e _ _ => e, f2, by simp⟩ ?_ ?_⟩⟩
      · rintro i σ H3 hi ⟨f, v2, rfl, k3, f3, hf3⟩
        refine ⟨_, rfl, _, _, rfl, rfl, ⟨by decide, by decide, by decide⟩, _, _, rfl, rfl, .inr (by constructor <;> decide), _, rfl, _, _, rfl, rfl, ⟨by decide, by decide, by decide⟩, F, L, 10 ^ 18, rfl, f3, by decide, pg, fun q H4 q1 k4 f4 => ⟨_, _, rfl, rfl, f * 10 ^ 18 + q, some (.int (0 + (i : Int))), ?_, k3.trans k4, f4, ?_⟩⟩
        · rw [Int.natCast_add, Int.natCast_mul]; rfl
        · have h1 : (f + 1) * 10 ^ 18 ≤ (10 ^ 18) ^ i * 10 ^ 18 := Nat.mul_le_mul_right _ hf3
          rw [Nat.pow_succ (10 ^ 18) i]
          omega
      · rintro σ H3 ⟨f, v2, rfl, k3, f3, hf3⟩
        have hb : f < 10 ^ 60 := by
          have : (10 ^ 18 : Nat) ^ (1 + (t : Int)).toNat ≤ (10 ^ 18) ^ 3 := Nat.pow_le_pow_right (by decide) (by omega)
          exact Nat.lt_of_lt_of_le hf3 (Nat.le_trans this (by decide))
        refine ⟨_, rfl, F, L, 18, rfl, f3, by decide, p18, fun u H4 u1 k4 f4 => ⟨_, rfl, by omega, by omega, for_range (n := (u : Int).toNat) (fun i σ H' => ∃ (f : Nat) (v3 : Option V), σ = [some (.ref F), some (.int (f : Nat)), v2, v3] ∧ KB2 F L H4 H' ∧ Feed H' F L ∧ f < 10 ^ 60)
          ⟨f, none, rfl, fun b o e _ _ => e, f4, hb⟩ ?_ ?_⟩⟩
        · rintro i σ H5 hi ⟨g, v3, rfl, k5, f5, hg⟩
          refine ⟨_, rfl, _, _, rfl, rfl, ⟨by decide, by decide⟩, g / 10, some (.int (0 + (i : Int))), ?_, k5, f5, Nat.lt_of_le_of_lt (Nat.div_le_self _ _) hg⟩
          rw [Int.natCast_ediv]; rfl
        · rintro σ H5 ⟨g, v3, rfl, k5, f5, hg⟩
          exact ⟨_, rfl, k g H5 hg (k1.trans (k2.trans (k3.trans (k4.trans k5)))) f5⟩
end
end My
set_option Elab.async false
set_option linter.all false
set_option maxRecDepth 100000
set_option maxHeartbeats 4000000
namespace My
open PySem L2
theorem cutTake (ms : List Int) (n : Nat) : cutV (ms.map V.int) none (some (n : Int)) = (ms.take n).map V.int := by
  unfold cutV
  rw [show HT.sIx (ms.map V.int).length 0 none = 0 from rfl, HT.sIx_nat]
  rw [List.drop_zero, List.length_map, Nat.sub_zero, ← List.map_take]
  congr 1
  by_cases h : n ≤ ms.length
  · rw [Nat.min_eq_left h]
  · rw [Nat.min_eq_right (by omega), List.take_of_length_le (Nat.le_refl _), List.take_of_length_le (by omega)]
theorem fd_merge (L : Addr) (n sd : Int) : mergeK [] (fd L n sd) = fd L n sd := by
  have a1 : ¬ ((Sum.inr ("left" : Str) : Key) = Sum.inr ("number" : Str)) := by decide +kernel
  have a2 : ¬ ((Sum.inr ("left" : Str) : Key) = Sum.inr ("seed" : Str)) := by decide +kernel
  have a3 : ¬ ((Sum.inr ("number" : Str) : Key) = Sum.inr ("seed" : Str)) := by decide +kernel
  unfold mergeK fd
  simp only [List.foldl_cons, List.foldl_nil]
  rw [putK_new _ valV_nil]
  rw [putK_new _ (show valV ([] ++ [((Sum.inr ("left" : Str) : Key), V.ref L)]) (Sum.inr ("number" : Str)) = none from (valV_neg a1).trans valV_nil)]
  rw [putK_new _ (show valV ([] ++ [((Sum.inr ("left" : Str) : Key), V.ref L)] ++ [((Sum.inr ("number" : Str) : Key), V.int n)]) (Sum.inr ("seed" : Str)) = none from (valV_neg a2).trans ((valV_neg a3).trans valV_nil))]
  rfl
section
variable {P : Program} {w : World} {K : PySem.W.Frag} {mg : Str → Option Value} {base : Heap}
theorem sc_l_feed : FnScope ["_law_script", "_law_seed", "_law_cell", "_law_great_here"] ["_law_script"] (defScope s_l_feed) := ⟨rfl, rfl, rfl, by decide +kernel, rfl, by decide +kernel, by decide +kernel⟩
theorem ok_l_feed {a : Adr} (T : Txt K mg a) : FnOk P w K mg base CX0 1 a.f_l_feed a.fd_l_feed ["_law_script"] (spFeed K) := by
  refine T.F_l_feed.ok sc_l_feed (fun vs H Q E h => ?_) (fun cdv A outer s H vs Q E hr h => ?_)
  · obtain ⟨sa, ns, rfl, _⟩ := h
    rfl
  · obtain ⟨sa, ns, rfl, hS, hns, k⟩ := h
    refine ⟨_, (pss_cons (ps_set (i := 1) sc_l_feed.nd rfl (Or.inl rfl) pe_int)
    (pss_cons (ps_for PassesOwn.never rfl (pi_list (pe_slice (sl_listK K) (pv 0) po_none (po_some pe_int))) (pg_name (i := 2) sc_l_feed.nd rfl (Or.inl rfl))
      (pss_one (ps_set (i := 1) sc_l_feed.nd rfl (Or.inl rfl) (pe_op op_modP (pe_op op_add (pe_op op_mul (pv 1) pe_int) (pv 2)) pe_int))))
    (pss_cons (ps_setComp (i := 3) (CompScope.mk' (esc := defScope s_l_feed) (N := ["_law_script", "_law_seed", "_law_cell", "_law_great_here"]) (own := ["_law_cell"]) (frn := []) (frj := []) rfl rfl (by decide +kernel)) rfl (pi_list (pe_slice (sl_listK K) (pv 0) po_none (po_some pe_int))) (fun _ _ _ _ => (pg_name (i := 0) (show List.Nodup (["_law_cell"] : List Str) by decide +kernel) rfl (Or.inl rfl))) (fun _ _ _ _ => (pifs_one (pt_cmpR op_ge (pe_callB call_abs (by rfl) T.z_abs bt_abs (pa_cons (pv 0) pa_nil)) (pe_op op_pow pe_int pe_int) (nomark _)))) (fun _ _ _ _ => (pe_callB call_abs (by rfl) T.z_abs bt_abs (pa_cons (pv 0) pa_nil))) sc_l_feed.nd rfl rfl)
    (pss_one (ps_ret (pe_disp (pps_cons pe_str (pe_revL K (pv 3) po_none po_none (po_some (pe_un un_neg pe_int))) (pps_cons pe_str pe_int (pps_cons pe_str (pv 1) pps_nil))) rfl rfl (fun z => nomatch z) (by decide))))))), ?_⟩
    have ec : cutV (ns.map V.int) none (some (63 : Int)) = (ns.take 63).map V.int := by rw [show (some (63 : Int)) = some ((63 : Nat) : Int) from rfl, cutTake]
    dsimp only [tSeq, tAsg, tC, gName]
    refine ⟨_, rfl, _, rfl, sa, _, rfl, hS, fun p hp => ?_⟩
    rw [ec]
    have sp := Same.new (o := .lst ((ns.take 63).map V.int)) hp
    refine ⟨p, rfl, ⟨_, .of upd_same⟩, for_list (xs := (ns.take 63).map V.int) (fun i σ H' => ∃ (sd : Int) (v2 : Option V), σ = [some (.ref sa), some (.int sd), v2, none] ∧ H' = upd H p (.lst ((ns.take 63).map V.int)) ∧ 0 ≤ sd ∧ sd < 2147483648)
      ⟨7919, none, rfl, rfl, by decide, by decide⟩ (fun i σ H' _ ⟨_, _, _, e, _⟩ => by rw [e]; exact .of upd_same) ?_ ?_⟩
    · rintro i x σ H1 hx ⟨sd, v2, rfl, rfl, h0, h1⟩
      obtain ⟨c, rfl, _⟩ := intItem hx
      refine ⟨_, rfl, _, _, rfl, rfl, .inr (by constructor <;> decide), _, rfl, _, _, rfl, rfl, _, _, rfl, rfl, cpos (by decide), _, _, rfl, rfl, Int.emod_nonneg _ (by decide), ?_⟩
      have := Int.emod_lt_of_pos (sd * 69621 + c) (show (0 : Int) < 2147483647 by decide)
      omega
    rintro σ H1 ⟨sd, v2, rfl, rfl, h0, h1⟩
    generalize upd H p (.lst ((ns.take 63).map V.int)) = H1 at sp ⊢
    refine ⟨_, rfl, _, rfl, sa, _, rfl, sp.seq hS, fun p2 hp2 => ?_⟩
    rw [ec]
    have sp2 := Same.new (o := .lst ((ns.take 63).map V.int)) hp2
    refine ⟨p2, rfl, ⟨_, .of upd_same⟩, fun C hC => ?_⟩
    have nC : p2 ≠ C := ne_of_none upd_same hC
    have hC1 : H1 C = none := sp2.free hC
    refine comp_list (xs := (ns.take 63).map V.int) (fun i σ H' => ∃ (v : Option V) (ms : List Int), σ = [v] ∧ Same H1 H' ∧ H' p2 = some (.lst ((ns.take 63).map V.int)) ∧ H' C = some (.lst (ms.map V.int)) ∧ (∀ m ∈ ms, 0 ≤ m) ∧ ms.length ≤ i)
      ⟨none, [], ?sg, sp2.trans (Same.new hC), (Same.new hC) _ _ upd_same, upd_same, (fun m hm => by cases hm), Nat.le_refl _⟩ (fun i σ H' _ ⟨_, _, _, _, h, _⟩ => .of h) ?_ ?_
    case sg => rfl
    · rintro i x σ H2 hx ⟨v, ms, rfl, s2, e2, c2, hms, lm⟩
      obtain ⟨c, rfl, hc⟩ := intItem hx
      have hi : i < (ns.take 63).length := (List.getElem?_eq_some_iff.mp hc).1
      rw [List.length_take] at hi
      refine ⟨_, rfl, c, rfl, _, _, rfl, rfl, ⟨by decide, by decide, by decide⟩, _, _, rfl, rfl, _, rfl, ?_⟩
      refine ite2 (fun _ => ?_) (fun _ => ⟨_, ms, rfl, s2, e2, c2, hms, by omega⟩)
      refine ⟨_, rfl, c, rfl, _, c2, ?_, _, ms ++ [if c < 0 then -c else c], rfl, s2.kbn hC1 KB.write, by rw [upd_ne nC]; exact e2, ?_, ?_, ?_⟩
      · rw [List.length_map]; exact Nat.lt_of_le_of_lt (show ms.length ≤ 100 by omega) (by decide)
      · rw [upd_same, List.map_append]; rfl
      · intro m hm
        rcases List.mem_append.mp hm with hm | hm
        · exact hms m hm
        · rw [List.mem_singleton.mp hm]; split <;> omega
      · rw [List.length_append]; show ms.length + 1 ≤ i + 1; omega
    rintro σ H2 ⟨v, ms, rfl, s2, e2, c2, hms, lm⟩
    have s02 := sp.trans s2
    refine fun F hF => ?_
    have sF := Same.new (o := .dK []) hF
    refine ⟨_, rfl, _, rfl, _, rfl, C, _, rfl, rfl, rfl, rfl, .of (sF _ _ c2), fun L hL => ⟨_, rfl, ?_⟩⟩
    have sL := Same.new (o := .lst (ms.map V.int).reverse) hL
    have nFL : F ≠ L := ne_of_none upd_same hL
    refine ⟨sL _ _ upd_same, fd L 0 sd, rfl, (by show 3 ≤ 15; decide), ?_⟩
    rw [fd_merge]
    refine k F L _ (s02.free hF) ((s02.trans sF).free hL) (((s02.trans sF).trans sL).kbn (s02.free hF) KB.write) ⟨ms.reverse, 0, sd, upd_same, ?_, Int.le_refl _, fun m hm => hms m (List.mem_reverse.mp hm), h0, h1⟩
    rw [upd_ne nFL.symm, upd_same, List.map_reverse]
end
end My
set_option Elab.async false
set_option linter.all false
set_option maxRecDepth 100000
set_option maxHeartbeats 4000000
namespace My
open PySem L2
def digs (b n : Nat) : List Int := if h : n = 0 ∨ b < 2 then [] else ((n % b : Nat) : Int) :: digs b (n / b)
termination_by n
decreasing_by exact Nat.div_lt_self (by omega) (by omega)
theorem digs_zero (b : Nat) : digs b 0 = [] := by rw [digs, dif_pos (.inl rfl)]
theorem digs_pos {b n : Nat} (hb : 2 ≤ b) (hn : 0 < n) : digs b n = ((n % b : Nat) : Int) :: digs b (n / b) := by rw [digs, dif_neg (by omega)]
theorem digs_len {b : Nat} (hb : 2 ≤ b) : ∀ (L n : Nat), n < 2 ^ L → (digs b n).length ≤ L
  | 0, n, h => by
    have : n = 0 := by simpa using h
    subst this; rw [digs_zero]; simp
  | L + 1, n, h => by
    by_cases hn : n = 0
    · subst hn; rw [digs_zero]; simp
    · rw [digs_pos hb (by omega), List.length_cons]
      refine Nat.succ_le_succ (digs_len hb L _ ?_)
      rw [Nat.div_lt_iff_lt_mul (by omega)]
      refine Nat.lt_of_lt_of_le h ?_
      rw [Nat.pow_succ]
      exact Nat.mul_le_mul_left _ hb
def spFigures : Sp := fun vs H Q _ => ∃ (b n : Nat), vs = [.int b, .int n] ∧ 2 ≤ b ∧ b ≤ 1000 ∧ n < 2 ^ 20000 ∧ ∀ (D : Addr) (H' : Hp), H D = none → Same H H' → H' D = some (.lst ((digs b n).map V.int)) → Q (.ref D) H'
theorem log_small {b : Nat} (h : b ≤ 1000) : (b : Int).natAbs.log2 < 9000 := by
  rw [Int.natAbs_natCast]
  by_cases hb : b = 0
  · subst hb; decide
  · rw [Nat.log2_lt hb]
    refine Nat.lt_of_le_of_lt h ?_
    refine Nat.lt_of_lt_of_le (show 1000 < 2 ^ 10 by decide) (Nat.pow_le_pow_right (by decide) (by decide))
section
variable {P : Program} {w : World} {K : PySem.W.Frag} {mg : Str → Option Value} {base : Heap}
theorem sc_figures_of : FnScope ["base", "number", "figures"] ["base", "number"] (defScope s_figures_of) := ⟨rfl, rfl, rfl, by decide +kernel, rfl, by decide +kernel, by decide +kernel⟩
theorem ok_figures_of {a : Adr} (T : Txt K mg a) : FnOk P w K mg base CX0 1 a.f_figures_of a.fd_figures_of ["base", "number"] spFigures := by
  refine T.F_figures_of.ok sc_figures_of (fun vs H Q E h => ?_) (fun cdv A outer s H vs Q E hr h => ?_)
  · obtain ⟨b, n, rfl, _⟩ := h
    rfl
  · obtain ⟨b, n, rfl, hb2, hb9, hn, k⟩ := h
    refine ⟨_, (pss_cons (ps_set (i := 2) sc_figures_of.nd rfl (Or.inl rfl) (pe_lst pa_nil))
    (pss_cons (ps_while PassesOwn.never (pt_cmpR op_gt (pv 1) pe_int (nomark _))
      (pss_cons (ps_expr (pe_bm PySem.F.plainAttrs_list PySem.F.slot_list_append PySem.F.type_list_append mt_append (pv 2) (pa_cons (pe_op op_modP (pv 1) (pv 0)) pa_nil)))
      (pss_one (ps_set (i := 1) sc_figures_of.nd rfl (Or.inl rfl) (pe_op op_fdivB (pv 1) (pv 0))))))
    (pss_one (ps_ret (pv 2))))), ?_⟩
    refine ⟨by decide, fun D hD => ?_⟩
    have hlen : (digs b n).length ≤ 20000 := digs_len hb2 20000 n hn
    refine while_by (fun σ H' => ∃ (m : Nat) (pre : List Int), σ = [some (.int b), some (.int m), some (.ref D)] ∧ Same H H' ∧ H' D = some (.lst (pre.map V.int)) ∧ pre ++ digs b m = digs b n)
      (fun σ _ => match σ with | [_, some (.int m), _] => m.toNat | _ => 0) ⟨n, [], rfl, Same.new hD, upd_same, rfl⟩ ?_ ?_
    · rintro σ H1 ⟨m, pre, rfl, s1, e1, hp⟩
      refine ⟨_, rfl, _, _, rfl, rfl, _, rfl, ?_⟩
      refine ite2 (fun hm => ?_) (fun hm => ?_)
      · have hm' : 0 < m := by have := of_decide_eq_true hm; omega
        have hpl : pre.length ≤ 20000 := by rw [← hp, List.length_append] at hlen; omega
        refine ⟨_, rfl, .inl ⟨rfl, _, .of e1⟩, _, rfl, _, rfl, _, _, rfl, rfl, cpos (by omega), D, _, _, rfl, rfl, e1, ?_, ?_⟩
        · rw [List.length_map]; exact Nat.lt_of_le_of_lt hpl (by decide)
        refine ⟨_, rfl, _, rfl, _, _, rfl, rfl, ⟨by omega, log_small hb9⟩, ⟨m / b, pre ++ [((m % b : Nat) : Int)], ?_, s1.kbn hD KB.write, ?_, ?_⟩, ?_⟩
        · rw [Int.natCast_ediv]; rfl
        · rw [upd_same, List.map_append, Int.natCast_emod]; rfl
        · rw [List.append_assoc, ← hp, digs_pos hb2 hm']; rfl
        · show ((m : Int) / (b : Int)).toNat < (m : Int).toNat
          rw [← Int.natCast_ediv, Int.toNat_natCast, Int.toNat_natCast]
          exact Nat.div_lt_self hm' (by omega)
      · have hm' : m = 0 := by
          by_cases z : m = 0
          · exact z
          · exact absurd (decide_eq_true (show (0 : Int) < (m : Int) by omega)) hm
        subst hm'
        rw [digs_zero, List.append_nil] at hp
        subst hp
        exact ⟨_, rfl, k D H1 hD s1 e1⟩
    · rintro σ H1 Q1 Q2 hQ ⟨v, e, i, j, e1, e2, c, e3, q⟩
      exact ⟨v, e, i, j, e1, e2, c, e3, hQ _ _ q⟩
end
def fl (b : Nat) : Nat → Nat → List Nat
  | 0, _ => []
  | n + 1, L => fl b n (L / b) ++ [L % b]
def lst (b : Nat) (acc : Nat) (ds : List Nat) : Nat := ds.foldl (fun l d => l * b + d) acc
theorem lst_cons (b acc d : Nat) (ds : List Nat) : lst b acc (d :: ds) = lst b (acc * b + d) ds := rfl
theorem lst_lt {b : Nat} : ∀ (ds : List Nat) (k acc : Nat), (∀ d ∈ ds, d < b) → acc < b ^ k → lst b acc ds < b ^ (k + ds.length)
  | [], k, acc, _, h => h
  | d :: t, k, acc, h, ha => by
    have hd : d < b := h d List.mem_cons_self
    rw [lst_cons, List.length_cons, show k + (t.length + 1) = (k + 1) + t.length by omega]
    refine lst_lt t (k + 1) _ (fun x hx => h x (List.mem_cons_of_mem _ hx)) ?_
    rw [Nat.pow_succ]
    have := Nat.mul_le_mul_right b (show acc + 1 ≤ b ^ k from ha)
    rw [Nat.add_mul, Nat.one_mul] at this
    omega
def castI (ds : List Nat) : List Int := ds.map fun (d : Nat) => (d : Int)
theorem dig_at {b : Nat} (hb : 2 ≤ b) : ∀ (p n : Nat), (digs b n).getD p 0 = ((n / b ^ p % b : Nat) : Int)
  | 0, n => by
    by_cases hn : n = 0
    · subst hn; rw [digs_zero]; simp
    · rw [digs_pos hb (by omega), Nat.pow_zero, Nat.div_one]; rfl
  | p + 1, n => by
    by_cases hn : n = 0
    · subst hn; rw [digs_zero]; simp
    · rw [digs_pos hb (by omega), List.getD_cons_succ, dig_at hb p, Nat.div_div_eq_div_mul, Nat.pow_succ, Nat.mul_comm b]
theorem dig_in {b : Nat} (hb : 2 ≤ b) : ∀ (p n : Nat), p < (digs b n).length ↔ 0 < n / b ^ p
  | 0, n => by
    by_cases hn : n = 0
    · subst hn; rw [digs_zero]; simp
    · rw [digs_pos hb (by omega), Nat.pow_zero, Nat.div_one]
      simp; omega
  | p + 1, n => by
    by_cases hn : n = 0
    · subst hn; rw [digs_zero]; simp
    · rw [digs_pos hb (by omega), List.length_cons, Nat.succ_lt_succ_iff, dig_in hb p, Nat.div_div_eq_div_mul, Nat.pow_succ, Nat.mul_comm b]
def ltr (b : Nat) (ns : List Nat) (p : Nat) : Nat := lst b 0 (ns.map fun n => n / b ^ p % b)
theorem ltr_lt {b : Nat} (hb : 0 < b) (ns : List Nat) (p : Nat) : ltr b ns p < b ^ ns.length := by
  have := lst_lt (b := b) (ns.map fun n => n / b ^ p % b) 0 0 (fun d hd => by
    obtain ⟨n, _, rfl⟩ := List.mem_map.mp hd
    exact Nat.mod_lt _ hb) (by simp)
  rw [List.length_map, Nat.zero_add] at this
  exact this
def plc (b : Nat) (ns : List Nat) : Nat := ns.foldr (fun n m => max (digs b n).length m) 0
theorem plc_le {b : Nat} : ∀ {ns : List Nat} {n : Nat}, n ∈ ns → (digs b n).length ≤ plc b ns
  | m :: ns, n, h => by
    show _ ≤ max (digs b m).length (plc b ns)
    rcases List.mem_cons.mp h with rfl | h
    · omega
    · have := plc_le (b := b) h
      omega
theorem plc_has {b : Nat} : ∀ {ns : List Nat}, ns ≠ [] → ∃ n ∈ ns, (digs b n).length = plc b ns
  | [m], _ => ⟨m, List.mem_cons_self, by show _ = max (digs b m).length 0; omega⟩
  | m :: m' :: ns, _ => by
    obtain ⟨n, hn, e⟩ := plc_has (b := b) (ns := m' :: ns) (by simp)
    have e' : plc b (m :: m' :: ns) = max (digs b m).length (plc b (m' :: ns)) := rfl
    rw [e']
    by_cases h : (digs b m).length ≤ plc b (m' :: ns)
    · exact ⟨n, List.mem_cons_of_mem _ hn, by omega⟩
    · exact ⟨m, List.mem_cons_self, by omega⟩
theorem plc_max {b : Nat} {ns : List Nat} {m : Int} (hm : m ∈ ns.map fun n => ((digs b n).length : Int)) (hx : ∀ x ∈ ns.map fun n => ((digs b n).length : Int), x ≤ m) : m = plc b ns := by
  obtain ⟨n, hn, rfl⟩ := List.mem_map.mp hm
  have h1 := plc_le (b := b) hn
  obtain ⟨k, hk, ek⟩ := plc_has (b := b) (ns := ns) (by rintro rfl; cases hn)
  have := hx _ (List.mem_map.mpr ⟨k, hk, rfl⟩)
  omega
theorem plc_small {b : Nat} (hb : 2 ≤ b) {L : Nat} : ∀ {ns : List Nat}, (∀ n ∈ ns, n < 2 ^ L) → plc b ns ≤ L
  | [], _ => Nat.zero_le _
  | m :: ns, h => by
    show max (digs b m).length (plc b ns) ≤ L
    have := plc_small hb (ns := ns) fun n hn => h n (List.mem_cons_of_mem _ hn)
    have := digs_len hb L m (h m List.mem_cons_self)
    omega
end My
set_option Elab.async false
set_option linter.all false
set_option maxRecDepth 100000
set_option maxHeartbeats 4000000
namespace My
open PySem L2
def Lsts (H : Hp) (rs : List Addr) (xss : List (List Int)) : Prop := Paired (fun r xs => H r = some (.lst (xs.map V.int))) rs xss
theorem Lsts.keep {H H' : Hp} : ∀ {rs : List Addr} {xss : List (List Int)}, Lsts H rs xss → (∀ r ∈ rs, ∀ o, H r = some o → H' r = some o) → Lsts H' rs xss
  | _, _, .nil, _ => .nil
  | _, _, .cons a t, k => .cons (k _ List.mem_cons_self _ a) (Lsts.keep t fun r hr => k r (List.mem_cons_of_mem _ hr))
theorem Lsts.same {H H' : Hp} {rs : List Addr} {xss : List (List Int)} (h : Lsts H rs xss) (s : Same H H') : Lsts H' rs xss := h.keep fun r _ o e => s r o e
theorem Lsts.but {H : Hp} {o : HO} {C : Addr} {rs : List Addr} {xss : List (List Int)} (h : Lsts H rs xss) (n : C ∉ rs) : Lsts (upd H C o) rs xss := h.keep fun r hr u e => by rw [upd_ne (fun z => n (by subst z; exact hr))]; exact e
theorem Lsts.get {H : Hp} : ∀ {rs : List Addr} {xss : List (List Int)} {i : Nat} {r : Addr}, Lsts H rs xss → rs[i]? = some r → ∃ xs, xss[i]? = some xs ∧ H r = some (.lst (xs.map V.int))
  | _, _, _, _, .nil, e => by simp at e
  | _, _, 0, _, .cons r _, e => by simp at e; subst e; exact ⟨_, rfl, r⟩
  | _, _, i + 1, p, .cons _ t, e => by
    simp only [List.getElem?_cons_succ] at e ⊢
    exact Lsts.get t e
theorem castI_at (ds : List Nat) (i : Nat) : (castI ds)[i]? = ds[i]?.map fun (d : Nat) => (d : Int) := by simp [castI]
theorem natItem {ds : List Nat} {i : Nat} {x : V} (h : ((castI ds).map V.int)[i]? = some x) : ∃ n : Nat, x = .int (n : Int) ∧ ds[i]? = some n := by
  obtain ⟨f, rfl, hf⟩ := intItem h
  rw [castI_at] at hf
  cases e : ds[i]? with
  | none => rw [e] at hf; cases hf
  | some n => rw [e] at hf; exact ⟨n, by rw [← Option.some.inj hf], rfl⟩
theorem refItem {rs : List Addr} {i : Nat} {x : V} (h : (rs.map V.ref)[i]? = some x) : ∃ r, x = .ref r ∧ rs[i]? = some r := by
  rw [List.getElem?_map] at h
  cases e : rs[i]? with
  | none => rw [e] at h; cases h
  | some r => rw [e] at h; exact ⟨r, (Option.some.inj h).symm, rfl⟩
theorem take_snoc {α : Type} {xs : List α} {i : Nat} {x : α} (h : xs[i]? = some x) : xs.take (i + 1) = xs.take i ++ [x] := by rw [List.take_add_one, h]; rfl
theorem castI_len (ds : List Nat) : (castI ds).length = ds.length := by simp [castI]
theorem castI_app (xs ys : List Nat) : castI (xs ++ ys) = castI xs ++ castI ys := by simp [castI]
theorem lst_snoc (b acc : Nat) (ds : List Nat) (d : Nat) : lst b acc (ds ++ [d]) = lst b acc ds * b + d := by simp [lst, List.foldl_append]
def spLetterAt (K : PySem.W.Frag) : Sp := fun vs H Q _ => ∃ (b p : Nat) (a : Addr) (rs : List Addr) (ns : List Nat), vs = [.int b, .ref a, .int p] ∧ 2 ≤ b ∧ b ≤ 1000 ∧ SqL K H a (rs.map V.ref) ∧ Lsts H rs (ns.map (digs b)) ∧ Q (.int (ltr b ns p : Nat)) H
def ltrs (b : Nat) (ns : List Nat) : List Nat := (List.range (plc b ns)).map (ltr b ns)
def spLettersOf (K : PySem.W.Frag) : Sp := fun vs H Q _ => ∃ (b : Nat) (a : Addr) (ns : List Nat), vs = [.int b, .ref a] ∧ 2 ≤ b ∧ b ≤ 1000 ∧ SqT K H a ((castI ns).map V.int) ∧ ns.length ≤ 1000 ∧ (∀ n ∈ ns, n < 2 ^ 600) ∧
  ∀ (D : Addr) (H' : Hp), H D = none → Same H H' → H' D = some (.lst ((castI (ltrs b ns)).map V.int)) → Q (.ref D) H'
section
variable {P : Program} {w : World} {K : PySem.W.Frag} {mg : Str → Option Value} {base : Heap}
theorem sc_letter_at : FnScope ["base", "rows", "place", "letter", "row", "figure"] ["base", "rows", "place"] (defScope s_letter_at) := ⟨rfl, rfl, rfl, by decide +kernel, rfl, by decide +kernel, by decide +kernel⟩
theorem ok_letter_at {a : Adr} (T : Txt K mg a) : FnOk P w K mg base CX0 1 a.f_letter_at a.fd_letter_at ["base", "rows", "place"] (spLetterAt K) := by
  refine T.F_letter_at.ok sc_letter_at (fun vs H Q E h => ?_) (fun cdv A outer s H vs Q E hr h => ?_)
  · obtain ⟨b, p, a, rs, ns, rfl, _⟩ := h
    rfl
  · obtain ⟨b, p, a, rs, ns, rfl, hb2, hb9, hS, hL, k⟩ := h
    refine ⟨_, (pss_cons (ps_set (i := 3) sc_letter_at.nd rfl (Or.inl rfl) pe_int)
    (pss_cons (ps_for PassesOwn.never rfl (pi_list (pv 1)) (pg_name (i := 4) sc_letter_at.nd rfl (Or.inl rfl))
      (pss_cons (ps_set (i := 5) sc_letter_at.nd rfl (Or.inl rfl) (pe_ifExp (pt_cmpR op_lt (pv 2) (pe_callB (call_lenK K) (by rfl) T.z_len bt_len (pa_cons (pv 4) pa_nil)) (nomark _)) (pe_ix (ix_listK K) (pv 4) (pv 2) (fun _ _ => rfl)) pe_int))
      (pss_one (ps_set (i := 3) sc_letter_at.nd rfl (Or.inl rfl) (pe_op op_add (pe_op op_mul (pv 3) (pv 0)) (pv 5))))))
    (pss_one (ps_ret (pv 3))))), ?_⟩
    have ll : rs.length = ns.length := by rw [Paired.length hL, List.length_map]
    refine ⟨_, rfl, a, rfl, ⟨_, hS⟩, for_list (xs := rs.map V.ref) (fun i σ H' => ∃ v4 v5 : Option V, σ = [some (.int b), some (.ref a), some (.int p), some (.int (lst b 0 ((ns.take i).map fun n => n / b ^ p % b) : Nat)), v4, v5] ∧ H' = H)
      ⟨none, none, rfl, rfl⟩ (fun i σ H' _ ⟨_, _, _, e⟩ => e ▸ hS) ?_ ?_⟩
    · rintro i x σ H' hx ⟨v4, v5, rfl, rfl⟩
      obtain ⟨r, rfl, hr'⟩ := refItem hx
      obtain ⟨xs, hxs, er⟩ := hL.get hr'
      rw [List.getElem?_map] at hxs
      cases en : ns[i]? with
      | none => rw [en] at hxs; cases hxs
      | some n =>
        rw [en] at hxs
        have exs : digs b n = xs := Option.some.inj hxs
        subst exs
        have fin : ∀ f : Int, f = (digs b n).getD p 0 → ∃ v4 v5 : Option V, [some (V.int b), some (.ref a), some (.int p), some (.int ((lst b 0 ((ns.take i).map fun n => n / b ^ p % b) : Nat) * b + f)), some (.ref r), some (.int f)] = [some (.int b), some (.ref a), some (.int p), some (.int (lst b 0 ((ns.take (i + 1)).map fun n => n / b ^ p % b) : Nat)), v4, v5] ∧ H' = H' := fun f ef => by
          refine ⟨some (.ref r), some (.int f), ?_, rfl⟩
          rw [take_snoc en, List.map_append, List.map_singleton, lst_snoc, ef, dig_at hb2, Int.natCast_add, Int.natCast_mul]
        refine ⟨_, rfl, _, rfl, _, _, rfl, .inl ⟨_, .of er, rfl⟩, _, _, rfl, rfl, _, rfl, ?_⟩
        refine ite2 (fun h1 => ?_) (fun h1 => ?_)
        · have h2 : p < (digs b n).length := by
            have := of_decide_eq_true h1
            rw [List.length_map] at this
            omega
          refine ⟨_, rfl, _, rfl, r, _, _, _, rfl, rfl, .of er, atI_nat (v := .int ((digs b n).getD p 0)) ?_, ?_⟩
          · rw [List.getElem?_map, List.getD_eq_getElem?_getD, List.getElem?_eq_getElem h2]; rfl
          exact ⟨_, rfl, _, rfl, _, _, rfl, rfl, .inr (by constructor <;> omega), _, rfl, _, _, rfl, rfl, fin _ rfl⟩
        · have h2 : ¬ p < (digs b n).length := fun z => h1 (decide_eq_true (by rw [List.length_map]; omega))
          refine ⟨_, rfl, _, rfl, _, _, rfl, rfl, .inr (by constructor <;> omega), _, rfl, _, _, rfl, rfl, fin 0 ?_⟩
          rw [List.getD_eq_getElem?_getD, List.getElem?_eq_none (by omega)]; rfl
    · rintro σ H' ⟨v4, v5, rfl, rfl⟩
      rw [List.length_map, ll, List.take_length]
      exact ⟨_, rfl, k⟩
theorem sc_letters_of : FnScope ["base", "numbers", "rows", "places"] ["base", "numbers"] (defScope s_letters_of) := ⟨rfl, rfl, rfl, by decide +kernel, rfl, by decide +kernel, by decide +kernel⟩
theorem ok_letters_of {a : Adr} (T : Txt K mg a) : FnOk P w K mg base CX0 2 a.f_letters_of a.fd_letters_of ["base", "numbers"] (spLettersOf K) := by
  have G_figures_of : FnOk P w K mg base CX0 1 a.f_figures_of a.fd_figures_of ["base", "number"] spFigures := ok_figures_of T
  have G_letter_at : FnOk P w K mg base CX0 1 a.f_letter_at a.fd_letter_at ["base", "rows", "place"] (spLetterAt K) := ok_letter_at T
  refine T.F_letters_of.ok sc_letters_of (fun vs H Q E h => ?_) (fun cdv A outer s H vs Q E hr h => ?_)
  · obtain ⟨b, a, ns, rfl, _⟩ := h
    rfl
  · obtain ⟨b, a, ns, rfl, hb2, hb9, hS, hlen, hn, k⟩ := h
    have hr_figures_of : Room 1 _ := hr
    have hr_letter_at : Room 1 _ := hr
    refine ⟨_, (pss_cons (ps_set (i := 2) sc_letters_of.nd rfl (Or.inr rfl) (pe_comp (CompScope.mk' (esc := defScope s_letters_of) (N := ["base", "numbers", "rows", "places"]) (own := ["number"]) (frn := ["base"]) (frj := [0]) rfl rfl (by decide +kernel)) rfl (pi_tup (pv 1)) (fun _ _ _ _ => (pg_name (i := 0) (show List.Nodup (["number", "base"] : List Str) by decide +kernel) rfl (Or.inl rfl))) (fun _ _ _ _ => pifs_nil) (fun _ _ _ _ => (pe_call G_figures_of hr_figures_of rfl T.m_figures_of T.k_figures_of T.b_figures_of .nil pass0 (pa_cons (pv 1) (pa_cons (pv 0) pa_nil))))))
    (pss_cons (ps_set (i := 3) sc_letters_of.nd rfl (Or.inl rfl) (pe_maxD K rfl rfl T.z_max (pa_cons (pe_comp (CompScope.mk' (esc := defScope s_letters_of) (N := ["base", "numbers", "rows", "places"]) (own := ["row"]) (frn := []) (frj := []) rfl rfl (by decide +kernel)) rfl (pi_list (pv 2)) (fun _ _ _ _ => (pg_name (i := 0) (show List.Nodup (["row"] : List Str) by decide +kernel) rfl (Or.inl rfl))) (fun _ _ _ _ => pifs_nil) (fun _ _ _ _ => (pe_callB (call_lenK K) (by rfl) T.z_len bt_len (pa_cons (pv 0) pa_nil)))) pa_nil) (pk_cons pe_int pk_nil)))
    (pss_one (ps_ret (pe_comp (CompScope.mk' (esc := defScope s_letters_of) (N := ["base", "numbers", "rows", "places"]) (own := ["place"]) (frn := ["base", "rows"]) (frj := [0, 2]) rfl rfl (by decide +kernel)) rfl (pi_range1 rfl T.z_range (pa_cons (pv 3) pa_nil)) (fun _ _ _ _ => (pg_name (i := 0) (show List.Nodup (["place", "base", "rows"] : List Str) by decide +kernel) rfl (Or.inl rfl))) (fun _ _ _ _ => pifs_nil) (fun _ _ _ _ => (pe_call G_letter_at hr_letter_at rfl T.m_letter_at T.k_letter_at T.b_letter_at .nil pass0 (pa_cons (pv 1) (pa_cons (pv 2) (pa_cons (pv 0) pa_nil)))))))))), ?_⟩
    refine ⟨_, rfl, a, rfl, ⟨_, hS⟩, fun C hC => ?_⟩
    refine comp_tup (xs := (castI ns).map V.int) (fun i σ H' => ∃ (rs : List Addr) (v : Option V), σ = [v, some (.int b)] ∧ Same H H' ∧ H' C = some (.lst (rs.map V.ref)) ∧ C ∉ rs ∧ Lsts H' rs ((ns.take i).map (digs b)))
      ⟨[], none, rfl, Same.new hC, upd_same, by simp, .nil⟩ (fun i σ H' _ ⟨_, _, _, s, _⟩ => s.seqT hS) ?_ ?_
    · rintro i x σ H1 hx ⟨rs, v, rfl, s1, eC, nC, L1⟩
      obtain ⟨n, rfl, en⟩ := natItem hx
      refine ⟨_, rfl, _, rfl, b, n, rfl, hb2, hb9, Nat.lt_of_lt_of_le (hn n (List.mem_of_getElem? en)) (Nat.pow_le_pow_right (by decide) (by decide)), fun D H2 hD s2 eD => ?_⟩
      have lrs : rs.length ≤ 1000 := by
        rw [Paired.length L1, List.length_map, List.length_take]; omega
      have eC2 := s2 _ _ eC
      refine ⟨_, eC2, ?_, rs ++ [D], _, rfl, (s1.trans s2).kbn hC KB.write, by rw [upd_same, List.map_append]; rfl, ?_, ?_⟩
      · rw [List.length_map]; exact Nat.lt_of_le_of_lt lrs (by decide)
      · intro z
        rcases List.mem_append.mp z with z | z
        · exact nC z
        · have : C = D := by simpa using z
          exact (ne_of_none eC hD) this
      · rw [take_snoc en, List.map_append]
        refine paired_append ((L1.same s2).but nC) (.cons ?_ .nil)
        rw [upd_ne (ne_of_none eC hD).symm]
        exact eD
    · rintro σ H1 ⟨rs, v, rfl, s1, eC, nC, L1⟩
      rw [List.length_map, castI_len, List.take_length] at L1
      have lrs : rs.length = ns.length := by rw [Paired.length L1, List.length_map]
      refine ⟨_, rfl, C, rfl, ⟨_, .of eC⟩, fun E hE => ?_⟩
      have nE : E ∉ rs := fun z => by
        obtain ⟨i, hi⟩ := List.getElem?_of_mem z
        obtain ⟨xs, _, e⟩ := L1.get hi
        rw [hE] at e; cases e
      have nCE := ne_of_none eC hE
      refine comp_list (xs := rs.map V.ref) (fun i σ H' => ∃ v : Option V, σ = [v] ∧ Same H1 H' ∧ H' E = some (.lst (((ns.take i).map fun n => ((digs b n).length : Int)).map V.int)))
        ⟨none, rfl, Same.new hE, upd_same⟩ (fun i σ H' _ ⟨_, _, s, _⟩ => .of (s _ _ eC)) ?_ ?_
      · rintro i x σ H2 hx ⟨v, rfl, s2, eE⟩
        obtain ⟨r, rfl, hr'⟩ := refItem hx
        obtain ⟨xs, hxs, er⟩ := L1.get hr'
        rw [List.getElem?_map] at hxs
        cases en : ns[i]? with
        | none => rw [en] at hxs; cases hxs
        | some n =>
          rw [en] at hxs
          have exs : digs b n = xs := Option.some.inj hxs
          subst exs
          refine ⟨_, rfl, _, _, rfl, .inl ⟨_, .of (s2 _ _ er), rfl⟩, _, eE, ?_, _, rfl, s2.kbn hE KB.write, ?_⟩
          · rw [List.length_map, List.length_map, List.length_take]
            exact Nat.lt_of_le_of_lt (show min i ns.length ≤ 1000 by omega) (by decide)
          · rw [upd_same, take_snoc en, List.map_append, List.map_append, List.length_map]; rfl
      · rintro σ H2 ⟨v, rfl, s2, eE⟩
        rw [List.length_map, lrs, List.take_length] at eE
        have pl : plc b ns ≤ 600 := plc_small hb2 hn
        have go : ∃ v : V, v = .int (plc b ns : Nat) ∧ True := ⟨_, rfl, trivial⟩
        refine ⟨E, _, _, rfl, rfl, .of eE, fun z => ?e0, fun m hm hx => ?e1⟩
        case e0 =>
          have z' : ns = [] := by simpa using z
          have zp : plc b ns = 0 := by rw [z']; rfl
          refine ⟨_, rfl, (0 : Int), rfl, by decide, by decide, fun F hF => ?_⟩
          refine comp_range (fun i σ H' => Same H2 H' ∧ H' F = some (.lst [])) ⟨Same.new hF, upd_same⟩ (fun i σ H' hi _ => absurd hi (by simp)) ?_
          rintro σ H3 ⟨s3, eF⟩
          refine k F H3 ((s1.trans s2).free hF) ((s1.trans s2).trans s3) ?_
          rw [eF, ltrs, zp]; rfl
        case e1 =>
          have em : m = plc b ns := plc_max hm hx
          subst em
          refine ⟨_, rfl, _, rfl, by omega, by omega, fun F hF => ?_⟩
          have nCF : C ≠ F := ne_of_none (s2 _ _ eC) hF
          refine comp_range (fun i σ H' => ∃ v : Option V, σ = [v, some (.int b), some (.ref C)] ∧ Same H2 H' ∧ H' F = some (.lst ((castI ((List.range i).map (ltr b ns))).map V.int))) ⟨none, rfl, Same.new hF, upd_same⟩ ?_ ?_
          · rintro i σ H3 hi ⟨v, rfl, s3, eF⟩
            rw [Int.toNat_natCast] at hi
            have e0 : (0 : Int) + (i : Int) = (i : Nat) := by omega
            refine ⟨_, rfl, _, rfl, _, rfl, b, i, C, rs, ns, by rw [e0]; rfl, hb2, hb9, .of (s3 _ _ (s2 _ _ eC)), L1.same (s2.trans s3), _, eF, ?_, _, rfl, s3.kbn hF KB.write, ?_⟩
            · rw [List.length_map, castI_len, List.length_map, List.length_range]; exact Nat.lt_of_lt_of_le (show i < 1000 by omega) (by decide)
            · rw [upd_same, List.range_succ, List.map_append, castI_app, List.map_append]; rfl
          · rintro σ H3 ⟨v, rfl, s3, eF⟩
            rw [Int.toNat_natCast] at eF
            exact k F H3 ((s1.trans s2).free hF) ((s1.trans s2).trans s3) eF
end
end My
set_option Elab.async false
set_option linter.all false
set_option maxRecDepth 100000
set_option maxHeartbeats 4000000
namespace My
open PySem L2
def wtext (l : List Nat) : Str := ⟨(l.map (97 + ·)).toArray⟩
def abcS : Str := "abcdefghijklmnopqrstuvwxyz"
theorem abcS_len : abcS.length ≤ sizeLine := by
  have : abcS.length = 26 := by decide +kernel
  rw [this]; decide
theorem abc_occ : ∀ c, c < 26 → Builtin.Str.occurrences abcS ⟨#[97 + c]⟩ 0 abcS.length 1 = [c] := by decide +kernel
theorem abc_ix : ∀ c, c < 26 → abcS.cps.toList[c]? = some (97 + c) := by decide +kernel
theorem wtext_append (a b : List Nat) : wtext a ++ wtext b = wtext (a ++ b) := by
  show (⟨_⟩ : Str) = ⟨_⟩
  simp [wtext]
theorem wtext_len (l : List Nat) : (wtext l).length = l.length := by
  show (l.map (97 + ·)).toArray.size = _
  rw [List.size_toArray, List.length_map]
theorem wtext_inj {a b : List Nat} (h : wtext a = wtext b) : a = b := by
  have h1 : (a.map (97 + ·)).toArray = (b.map (97 + ·)).toArray := congrArg Str.cps h
  have h2 : a.map (97 + ·) = b.map (97 + ·) := congrArg Array.toList h1
  exact (List.map_inj_right (fun x y z => by omega)).mp h2
theorem wtext_ascii {l : List Nat} (h : ∀ c ∈ l, c < 26) : (wtext l).cps.all (· < 128) = true := by
  unfold wtext
  rw [List.all_toArray, List.all_map, List.all_eq_true]
  intro c hc
  exact decide_eq_true (by have := h c hc; show 97 + c < 128; omega)
theorem revStr_wtext (l : List Nat) : revStr (wtext l) = wtext l.reverse := by
  show (⟨_⟩ : Str) = ⟨_⟩
  simp [wtext]
theorem wtext_get {l : List Nat} {i x : Nat} (h : (wtext l).cps[i]? = some x) : ∃ c, l[i]? = some c ∧ x = 97 + c := by
  have h1 : (l.map (97 + ·))[i]? = some x := by
    rw [← h]
    show _ = (l.map (97 + ·)).toArray[i]?
    rw [List.getElem?_toArray]
  rw [List.getElem?_map] at h1
  obtain ⟨c, hc, e⟩ := Option.map_eq_some_iff.mp h1
  exact ⟨c, hc, e.symm⟩
def aftGo : List Nat → List Nat × Nat
  | [] => ([], 1)
  | c :: cs => (((c + (aftGo cs).2) % 26) :: (aftGo cs).1, (c + (aftGo cs).2) / 26)
theorem aftGo_len : ∀ l, (aftGo l).1.length = l.length
  | [] => rfl
  | c :: cs => by rw [aftGo, List.length_cons, List.length_cons, aftGo_len cs]
theorem aftGo_more : ∀ {l}, (∀ c ∈ l, c < 26) → (aftGo l).2 ≤ 1
  | [], _ => Nat.le_refl _
  | c :: cs, h => by
    have h1 := aftGo_more (l := cs) fun x hx => h x (List.mem_cons_of_mem _ hx)
    have h2 := h c List.mem_cons_self
    show (c + (aftGo cs).2) / 26 ≤ 1
    omega
theorem aftGo_lt : ∀ {l}, (∀ c ∈ l, c < 26) → ∀ c ∈ (aftGo l).1, c < 26
  | [], _, c, hc => by cases hc
  | c :: cs, h, x, hx => by
    rcases List.mem_cons.mp (show x ∈ ((c + (aftGo cs).2) % 26) :: (aftGo cs).1 from hx) with e | e
    · omega
    · exact aftGo_lt (l := cs) (fun y hy => h y (List.mem_cons_of_mem _ hy)) x e
def aft (l : List Nat) : List Nat := ((aftGo l).1 ++ List.replicate (aftGo l).2 0).take 3
structure Word (l : List Nat) : Prop where
  ne : 0 < l.length
  le : l.length ≤ 3
  lt : ∀ c ∈ l, c < 26
def rk : List Nat → Nat
  | [a] => a
  | [a, b] => 26 + 26 * a + b
  | [a, b, c] => 702 + 676 * a + 26 * b + c
  | _ => 0
theorem Word.cases {l : List Nat} (h : Word l) : (∃ a, l = [a] ∧ a < 26) ∨ (∃ a b, l = [a, b] ∧ a < 26 ∧ b < 26) ∨ ∃ a b c, l = [a, b, c] ∧ a < 26 ∧ b < 26 ∧ c < 26 := by
  have h1 := h.ne
  have h2 := h.le
  have h3 := h.lt
  match l, h1, h2, h3 with
  | [a], _, _, h3 => exact .inl ⟨a, rfl, h3 a (by simp)⟩
  | [a, b], _, _, h3 => exact .inr (.inl ⟨a, b, rfl, h3 a (by simp), h3 b (by simp)⟩)
  | [a, b, c], _, _, h3 => exact .inr (.inr ⟨a, b, c, rfl, h3 a (by simp), h3 b (by simp), h3 c (by simp)⟩)
  | _ :: _ :: _ :: _ :: _, _, h2, _ => simp at h2
theorem aft_rk {l : List Nat} (h : Word l) : rk (aft l) % 17576 = (rk l + 1) % 17576 := by
  rcases h.cases with ⟨a, rfl, ha⟩ | ⟨a, b, rfl, ha, hb⟩ | ⟨a, b, c, rfl, ha, hb, hc⟩
  · have e : (a + 1) / 26 = 0 ∨ (a + 1) / 26 = 1 := by omega
    have E : aft [a] = ([(a + 1) % 26] ++ List.replicate ((a + 1) / 26) 0).take 3 := rfl
    rcases e with e | e <;> rw [E, e]
    · show ((a + 1) % 26) % 17576 = (a + 1) % 17576
      omega
    · show (26 + 26 * ((a + 1) % 26) + 0) % 17576 = (a + 1) % 17576
      omega
  · have e : (a + (b + 1) / 26) / 26 = 0 ∨ (a + (b + 1) / 26) / 26 = 1 := by omega
    have E : aft [a, b] = ([(a + (b + 1) / 26) % 26, (b + 1) % 26] ++ List.replicate ((a + (b + 1) / 26) / 26) 0).take 3 := rfl
    rcases e with e | e <;> rw [E, e]
    · show (26 + 26 * ((a + (b + 1) / 26) % 26) + (b + 1) % 26) % 17576 = (26 + 26 * a + b + 1) % 17576
      omega
    · show (702 + 676 * ((a + (b + 1) / 26) % 26) + 26 * ((b + 1) % 26) + 0) % 17576 = (26 + 26 * a + b + 1) % 17576
      omega
  · have e : (a + (b + (c + 1) / 26) / 26) / 26 = 0 ∨ (a + (b + (c + 1) / 26) / 26) / 26 = 1 := by omega
    have E : aft [a, b, c] = ([(a + (b + (c + 1) / 26) / 26) % 26, (b + (c + 1) / 26) % 26, (c + 1) % 26] ++ List.replicate ((a + (b + (c + 1) / 26) / 26) / 26) 0).take 3 := rfl
    have G : rk [(a + (b + (c + 1) / 26) / 26) % 26, (b + (c + 1) / 26) % 26, (c + 1) % 26] % 17576 = (702 + 676 * a + 26 * b + c + 1) % 17576 := by
      show (702 + 676 * ((a + (b + (c + 1) / 26) / 26) % 26) + 26 * ((b + (c + 1) / 26) % 26) + (c + 1) % 26) % 17576 = _
      omega
    rcases e with e | e <;> rw [E, e] <;> exact G
theorem aft_word {l : List Nat} (h : Word l) : Word (aft l) := by
  have h1 := aftGo_len l
  have h0 := h.ne
  refine ⟨?_, ?_, fun c hc => ?_⟩
  · rw [aft, List.length_take, List.length_append, h1]; omega
  · rw [aft, List.length_take]; omega
  · rcases List.mem_append.mp (List.mem_of_mem_take hc) with z | z
    · exact aftGo_lt h.lt c z
    · rw [(List.mem_replicate.mp z).2]; decide
theorem slice3 (l : List Nat) (h0 : 0 < l.length) (h : l.length ≤ 4) : Txt.slice (wtext l) none (some 3) = wtext (l.take 3) := by
  match l, h0, h with
  | [a], _, _ => with_unfolding_all rfl
  | [a, b], _, _ => with_unfolding_all rfl
  | [a, b, c], _, _ => with_unfolding_all rfl
  | [a, b, c, d], _, _ => with_unfolding_all rfl
theorem mul_a (n : Nat) (h : n ≤ 1) : Txt.mul "a" (n : Int) = wtext (List.replicate n 0) := by
  match n, h with
  | 0, _ => with_unfolding_all rfl
  | 1, _ => with_unfolding_all rfl
theorem join_w (l : List Nat) (h : l.length ≤ 3) : Txt.join "" (l.map fun c => wtext [c]) = wtext l := by
  match l, h with
  | [], _ => with_unfolding_all rfl
  | [a], _ => with_unfolding_all rfl
  | [a, b], _ => with_unfolding_all rfl
  | [a, b, c], _ => with_unfolding_all rfl
  | _ :: _ :: _ :: _ :: _, h => simp at h
def spAfter : Sp := fun vs H Q _ => ∃ l : List Nat, vs = [.str (wtext l)] ∧ Word l ∧ Q (.str (wtext (aft l))) H
section
variable {P : Program} {w : World} {K : PySem.W.Frag} {mg : Str → Option Value} {base : Heap}
theorem sc_l_after : FnScope ["_law_word", "_law_letters", "_law_found", "_law_more", "_law_sign", "_law_number"] ["_law_word"] (defScope s_l_after) := ⟨rfl, rfl, rfl, by decide +kernel, rfl, by decide +kernel, by decide +kernel⟩
theorem ok_l_after {a : Adr} (T : Txt K mg a) : FnOk P w K mg base CX0 1 a.f_l_after a.fd_l_after ["_law_word"] spAfter := by
  refine T.F_l_after.ok sc_l_after (fun vs H Q E h => ?_) (fun cdv A outer s H vs Q E hr h => ?_)
  · obtain ⟨l, rfl, _⟩ := h
    rfl
  · obtain ⟨l, rfl, hw, k⟩ := h
    refine ⟨_, (pss_cons (ps_set (i := 1) sc_l_after.nd rfl (Or.inl rfl) pe_str)
    (pss_cons (ps_set (i := 2) sc_l_after.nd rfl (Or.inl rfl) pe_str)
    (pss_cons (ps_set (i := 3) sc_l_after.nd rfl (Or.inl rfl) pe_int)
    (pss_cons (ps_for PassesOwn.never rfl (pi_str (pe_revS (pv 0) po_none po_none (po_some (pe_un un_neg pe_int)))) (pg_name (i := 4) sc_l_after.nd rfl (Or.inl rfl))
      (pss_cons (ps_set (i := 5) sc_l_after.nd rfl (Or.inl rfl) (pe_op op_add (pe_bm PySem.F.plainAttrs_str PySem.F.slot_str_index PySem.F.type_str_index mt_index (pv 1) (pa_cons (pv 4) pa_nil)) (pv 3)))
      (pss_cons (ps_set (i := 2) sc_l_after.nd rfl (Or.inl rfl) (pe_op op_add_str (pe_ix ix_str (pv 1) (pe_op op_modP (pv 5) pe_int) (fun _ _ => rfl)) (pv 2)))
      (pss_one (ps_set (i := 3) sc_l_after.nd rfl (Or.inl rfl) (pe_op op_fdivB (pv 5) pe_int))))))
    (pss_one (ps_ret (pe_slice sl_str (pe_op op_add_str (pv 2) (pe_op op_mulS pe_str (pv 3))) po_none (po_some pe_int)))))))), ?_⟩
    have lw := wtext_len l
    have le3 := hw.le
    have big : (100 : Nat) ≤ sizeLine := by decide
    dsimp only [tSeq, tAsg, tC, gName]
    refine ⟨_, rfl, _, rfl, _, rfl, wtext l, rfl, rfl, rfl, rfl, by omega, revStr (wtext l), rfl, ?asc, for_str (fun i σ H' => ∃ v4 v5 : Option V, σ = [some (.str (wtext l)), some (.str abcS), some (.str (wtext (aftGo (l.drop (l.length - i))).1)), some (.int ((aftGo (l.drop (l.length - i))).2 : Nat)), v4, v5] ∧ H' = H)
      ⟨none, none, ?st, rfl⟩ ?_ ?_⟩
    case asc => rw [revStr_wtext]; exact wtext_ascii fun c hc => hw.lt c (List.mem_reverse.mp hc)
    case st => rw [Nat.sub_zero, List.drop_length]; rfl
    · rintro i x σ H1 hx ⟨v4, v5, rfl, rfl⟩
      rw [revStr_wtext] at hx
      obtain ⟨c, hc, rfl⟩ := wtext_get hx
      have hi : i < l.length := by have := (List.getElem?_eq_some_iff.mp hc).1; rwa [List.length_reverse] at this
      rw [List.getElem?_reverse hi] at hc
      have hc26 := hw.lt c (List.mem_of_getElem? hc)
      have ed : l.drop (l.length - (i + 1)) = c :: l.drop (l.length - i) := by
        have h1 : l.length - (i + 1) = l.length - 1 - i := by omega
        have h2 : l.length - i = l.length - 1 - i + 1 := by omega
        rw [h1, h2]
        exact List.drop_eq_getElem?_toList_append.trans (by rw [hc]; rfl)
      have hm := aftGo_more (l := l.drop (l.length - i)) fun x hx => hw.lt x (List.mem_of_mem_drop hx)
      have hlen := aftGo_len (l.drop (l.length - i))
      rw [List.length_drop] at hlen
      have ea : aftGo (c :: l.drop (l.length - i)) = (((c + (aftGo (l.drop (l.length - i))).2) % 26) :: (aftGo (l.drop (l.length - i))).1, (c + (aftGo (l.drop (l.length - i))).2) / 26) := rfl
      rw [ed, ea]
      generalize aftGo (l.drop (l.length - i)) = g at hm hlen ⊢
      have eN : ((c : Int) + (g.2 : Int)) % 26 = (((c + g.2) % 26 : Nat) : Int) := by rw [Int.natCast_emod, Int.natCast_add]; rfl
      have eD : ((c : Int) + (g.2 : Int)) / 26 = (((c + g.2) / 26 : Nat) : Int) := by rw [Int.natCast_ediv, Int.natCast_add]; rfl
      refine ⟨_, rfl, rfl, _, rfl, abcS, ⟨#[97 + c]⟩, c, [], rfl, rfl, abc_occ c hc26, _, rfl, _, _, rfl, rfl, ?_⟩
      refine ⟨_, rfl, _, rfl, _, _, rfl, rfl, cpos (by decide), abcS, _, 97 + (c + g.2) % 26, rfl, rfl, abcS_len, by rw [eN]; exact atI_nat (abc_ix _ (Nat.mod_lt _ (by decide))), _, rfl, _, _, rfl, rfl, ?len, _, rfl, _, _, rfl, rfl, ⟨by decide, by decide⟩, ?_⟩
      case len =>
        have e1 : Str.length (⟨#[97 + (c + g.2) % 26]⟩ : Str) = 1 := rfl
        rw [e1, wtext_len]
        omega
      refine ⟨some (.str ⟨#[97 + c]⟩), some (.int ((c : Int) + (g.2 : Int))), ?_, rfl⟩
      show [some (V.str (wtext l)), some (V.str abcS), some (V.str ((⟨#[97 + (c + g.2) % 26]⟩ : Str) ++ wtext g.1)), some (V.int (((c : Int) + (g.2 : Int)) / 26)), some (V.str ⟨#[97 + c]⟩), some (V.int ((c : Int) + (g.2 : Int)))] = _
      have e2 : (⟨#[97 + (c + g.2) % 26]⟩ : Str) ++ wtext g.1 = wtext (((c + g.2) % 26) :: g.1) := wtext_append [(c + g.2) % 26] g.1
      rw [e2, eD]
    · rintro σ H1 ⟨v4, v5, rfl, rfl⟩
      have es : (revStr (wtext l)).cps.size = l.length := by
        rw [revStr_wtext]
        exact (wtext_len _).trans List.length_reverse
      rw [es, Nat.sub_self, List.drop_zero]
      have hm := aftGo_more hw.lt
      have hlen := aftGo_len l
      have h0 := hw.ne
      have ef : aft l = ((aftGo l).1 ++ List.replicate (aftGo l).2 0).take 3 := rfl
      rw [ef] at k
      generalize aftGo l = g at hm hlen k ⊢
      refine ⟨_, rfl, _, rfl, "a", (g.2 : Int), rfl, rfl, by omega, by omega, (by show 1 ≤ 1000; decide), _, _, rfl, rfl, ?len, _, rfl, _, rfl, ?len2, ?_⟩
      case len =>
        rw [mul_a _ hm, wtext_len, wtext_len, List.length_replicate]
        omega
      case len2 =>
        rw [mul_a _ hm, wtext_append, wtext_len, List.length_append, List.length_replicate]
        omega
      rw [mul_a _ hm, wtext_append, slice3 _ (by rw [List.length_append]; omega) (by rw [List.length_append, List.length_replicate]; omega)]
      exact k
end
end My
set_option Elab.async false
set_option linter.all false
set_option maxRecDepth 100000
set_option maxHeartbeats 4000000
namespace My
open PySem L2
theorem allflat (l : List Str) : (l.map V.str).all flatV = true := by rw [List.all_map]; exact List.all_eq_true.mpr fun _ _ => rfl
theorem Feed.neF {H : Hp} {F L N : Addr} (h : Feed H F L) (e : H N = none) : N ≠ F ∧ N ≠ L := by
  obtain ⟨ms, n, sd, a, b, _⟩ := h.ex
  exact ⟨(ne_of_none a e).symm, (ne_of_none b e).symm⟩
theorem Feed.ne {H : Hp} {F L : Addr} (h : Feed H F L) : F ≠ L := by
  obtain ⟨ms, n, sd, a, b, _⟩ := h.ex
  exact ne_of a b (fun z => nomatch z)
theorem Feed.lo {H H' : Hp} {F L N : Addr} (h : Feed H' F L) (k : KB2 F L H H') (e : H' N = none) : H N = none := by
  obtain ⟨n1, n2⟩ := h.neF e
  cases z : H N with
  | none => rfl
  | some o => have := k N o z n1 n2; rw [e] at this; cases this
theorem Feed.upd {H : Hp} {F L N : Addr} {o : HO} (h : Feed H F L) (n : N ≠ F ∧ N ≠ L) : Feed (upd H N o) F L := by
  obtain ⟨ms, m, sd, a, b, c⟩ := h.ex
  exact ⟨ms, m, sd, by rw [upd_ne n.1.symm]; exact a, by rw [upd_ne n.2.symm]; exact b, c⟩
theorem KB2.updN {H H' : Hp} {F L N : Addr} {o : HO} (k : KB2 F L H H') (e : H N = none) : KB2 F L H (upd H' N o) := fun b p h n m => by
  rw [upd_ne (ne_of_none h e)]
  exact k b p h n m
theorem or_abs {T : (Bool → Hp → Prop) → Prop} {Qf : Bool → Hp → Prop} {c : Bool} (S : Hp → Prop) (h : ∀ Qc : Bool → Hp → Prop, (∀ H', S H' → Qc c H') → T Qc) (x : ∀ H', S H' → Qf c H') : T Qf := h Qf x
def noWords : List Str := ["and", "not", "or"]
structure NamesOk (ss : List Str) : Prop where
  once : ss.Nodup
  words : ∀ s ∈ ss, ∃ l, Word l ∧ s = wtext l
  no : ∀ s ∈ ss, s ∉ noWords
theorem NamesOk.perm {ss rs : List Str} (h : NamesOk ss) (p : rs.Perm ss) : NamesOk rs := ⟨p.nodup_iff.mpr h.once, fun s hs => h.words s (p.mem_iff.mp hs), fun s hs => h.no s (p.mem_iff.mp hs)⟩
structure Met (B : List Str) (l : List Nat) (vis : List Str) : Prop where
  once : vis.Nodup
  sub : ∀ v ∈ vis, v ∈ B
  ex : ∃ r0, rk l % 17576 = (r0 + vis.length) % 17576 ∧ ∀ (j : Nat) (v : Str), vis[j]? = some v → ∃ l', v = wtext l' ∧ rk l' % 17576 = (r0 + j) % 17576
theorem Met.step {B : List Str} {l : List Nat} {vis : List Str} (h : Met B l vis) (hw : Word l) (hB : B.length ≤ 20) (hl : wtext l ∈ B) : Met B (aft l) (vis ++ [wtext l]) := by
  obtain ⟨r0, h1, h2⟩ := h.ex
  have len := nodup_len h.once h.sub
  have fresh : wtext l ∉ vis := fun z => by
    obtain ⟨j, hj⟩ := List.getElem?_of_mem z
    obtain ⟨l', e, e2⟩ := h2 j _ hj
    rw [← wtext_inj e, h1] at e2
    have := (List.getElem?_eq_some_iff.mp hj).1
    omega
  refine ⟨?_, fun v hv => ?_, r0, ?_, fun j v hj => ?_⟩
  · rw [List.nodup_append]
    exact ⟨h.once, by simp, fun a ha b hb e => fresh (by rw [← List.mem_singleton.mp hb, ← e]; exact ha)⟩
  · rcases List.mem_append.mp hv with z | z
    · exact h.sub v z
    · rw [List.mem_singleton.mp z]; exact hl
  · rw [aft_rk hw, List.length_append]
    show (rk l + 1) % 17576 = (r0 + (vis.length + 1)) % 17576
    omega
  · by_cases lt : j < vis.length
    · rw [List.getElem?_append_left lt] at hj
      exact h2 j v hj
    · have hl2 := (List.getElem?_eq_some_iff.mp hj).1
      rw [List.length_append] at hl2
      have hl3 : j < vis.length + 1 := hl2
      have e : j = vis.length := by omega
      subst e
      rw [List.getElem?_append_right (Nat.le_refl _), Nat.sub_self] at hj
      have e2 : wtext l = v := Option.some.inj hj
      exact ⟨l, e2.symm, h1⟩
def spNames : Sp := fun vs H Q _ => ∃ (F L : Addr) (m : Nat), vs = [.ref F, .int m] ∧ Feed H F L ∧ m ≤ 6 ∧
  ∀ (D : Addr) (ss : List Str) (H' : Hp), H D = none → KB2 F L H H' → Feed H' F L → H' D = some (.tup (ss.map V.str)) → ss.length = m → NamesOk ss → PyProof.Rows.sortedS ss = true → Q (.ref D) H'
section
variable {P : Program} {w : World} {K : PySem.W.Frag} {mg : Str → Option Value} {base : Heap}
theorem sc_l_names : FnScope ["_law_feed_here", "_law_many", "_law_found", "_law_k", "_law_signs", "_law_word"] ["_law_feed_here", "_law_many"] (defScope s_l_names) := ⟨rfl, rfl, rfl, by decide +kernel, rfl, by decide +kernel, by decide +kernel⟩
theorem ok_l_names {a : Adr} (T : Txt K mg a) : FnOk P w K mg base CX0 2 a.f_l_names a.fd_l_names ["_law_feed_here", "_law_many"] spNames := by
  have G_l_draw : FnOk P w K mg base CX0 1 a.f_l_draw a.fd_l_draw ["_law_feed_here", "_law_many"] spDraw := ok_l_draw T
  have G_l_after : FnOk P w K mg base CX0 1 a.f_l_after a.fd_l_after ["_law_word"] spAfter := ok_l_after T
  refine T.F_l_names.ok sc_l_names (fun vs H Q E h => ?_) (fun cdv A outer s H vs Q E hr h => ?_)
  · obtain ⟨F, L, m, rfl, _⟩ := h
    rfl
  · obtain ⟨F, L, m, rfl, hf, hm, k⟩ := h
    have hr_l_draw : Room 1 _ := hr
    have hr_l_after : Room 1 _ := hr
    refine ⟨_, (pss_cons (ps_set (i := 2) sc_l_names.nd rfl (Or.inl rfl) (pe_lst pa_nil))
    (pss_cons (ps_for PassesOwn.never rfl (pi_range1 rfl T.z_range (pa_cons (pv 1) pa_nil)) (pg_name (i := 3) sc_l_names.nd rfl (Or.inl rfl))
      (pss_cons (ps_setComp (i := 4) (CompScope.mk' (esc := defScope s_l_names) (N := ["_law_feed_here", "_law_many", "_law_found", "_law_k", "_law_signs", "_law_word"]) (own := ["_law_sign"]) (frn := ["_law_feed_here"]) (frj := [0]) rfl rfl (by decide +kernel)) rfl (pi_range1 rfl T.z_range (pa_cons (pe_op op_add pe_int (pe_call G_l_draw hr_l_draw rfl T.m_l_draw T.k_l_draw T.b_l_draw .nil pass0 (pa_cons (pv 0) (pa_cons pe_int pa_nil)))) pa_nil)) (fun _ _ _ _ => (pg_name (i := 0) (show List.Nodup (["_law_sign", "_law_feed_here"] : List Str) by decide +kernel) rfl (Or.inl rfl))) (fun _ _ _ _ => pifs_nil) (fun _ _ _ _ => (pe_call G_l_draw hr_l_draw rfl T.m_l_draw T.k_l_draw T.b_l_draw .nil pass0 (pa_cons (pv 1) (pa_cons pe_int pa_nil)))) sc_l_names.nd rfl rfl)
      (pss_cons (ps_set (i := 5) sc_l_names.nd rfl (Or.inl rfl) (pe_bm PySem.F.plainAttrs_str PySem.F.slot_str_join PySem.F.type_str_join (mt_joinK K) pe_str (pa_cons (pe_comp (CompScope.mk' (esc := defScope s_l_names) (N := ["_law_feed_here", "_law_many", "_law_found", "_law_k", "_law_signs", "_law_word"]) (own := ["_law_sign"]) (frn := []) (frj := []) rfl rfl (by decide +kernel)) rfl (pi_list (pv 4)) (fun _ _ _ _ => (pg_name (i := 0) (show List.Nodup (["_law_sign"] : List Str) by decide +kernel) rfl (Or.inl rfl))) (fun _ _ _ _ => pifs_nil) (fun _ _ _ _ => (pe_ix ix_str pe_str (pv 0) (fun _ _ => rfl)))) pa_nil)))
      (pss_cons (ps_while PassesOwn.never (PW.pt (pw_or (pt_cmpR (op_inK K) (pv 5) (pv 2) (by with_unfolding_all rfl)) (pw_or1 (pt_cmpR (op_inK K) (pv 5) (pe_tup (pa_cons pe_str (pa_cons pe_str (pa_cons pe_str pa_nil)))) (by with_unfolding_all rfl)))))
        (pss_one (ps_set (i := 5) sc_l_names.nd rfl (Or.inl rfl) (pe_call G_l_after hr_l_after rfl T.m_l_after T.k_l_after T.b_l_after .nil pass0 (pa_cons (pv 5) pa_nil)))))
      (pss_one (ps_expr (pe_bm PySem.F.plainAttrs_list PySem.F.slot_list_append PySem.F.type_list_append mt_append (pv 2) (pa_cons (pv 5) pa_nil))))))))
    (pss_one (ps_ret (pe_callTy (call_tupleK K) (by rfl) T.z_tuple bt_tuple (pa_cons (pe_callB (call_sortSK K) (by rfl) T.z_sorted bt_sorted (pa_cons (pv 2) pa_nil)) pa_nil)))))), ?_⟩
    have p3 : (3 : Nat) < 2 ^ 1000 := Nat.lt_of_lt_of_le (show 3 < 2 ^ 2 by decide) (Nat.pow_le_pow_right (by decide) (by decide))
    have p26 : (26 : Nat) < 2 ^ 1000 := Nat.lt_of_lt_of_le (show 26 < 2 ^ 6 by decide) (Nat.pow_le_pow_right (by decide) (by decide))
    have big : (100 : Nat) ≤ sizeLine := by decide
    refine ⟨by decide, fun N hN => ?_⟩
    have nN := hf.neF hN
    refine ⟨_, rfl, _, rfl, by omega, by omega, for_range (n := (m : Int).toNat) (fun i σ H' => ∃ (fs : List Str) (v3 v4 v5 : Option V), σ = [some (.ref F), some (.int (m : Nat)), some (.ref N), v3, v4, v5] ∧ KB2 F L H H' ∧ Feed H' F L ∧ H' N = some (.lst (fs.map V.str)) ∧ fs.length = i ∧ NamesOk fs)
      ⟨[], none, none, none, rfl, (Same.new hN).kb2, hf.same (Same.new hN), upd_same, rfl, ⟨List.nodup_nil, fun s hs => (by cases hs), fun s hs => (by cases hs)⟩⟩ ?_ ?_⟩
    · rintro i σ H1 hi ⟨fs, v3, v4, v5, rfl, k1, f1, n1, lf, ok⟩
      rw [Int.toNat_natCast] at hi
      refine ⟨_, rfl, F, L, 3, rfl, f1, by decide, p3, fun t H2 t1 k2 f2 => ⟨_, _, rfl, rfl, _, rfl, by omega, by omega, fun C hC => ?_⟩⟩
      have n2 := k2 _ _ n1 nN.1 nN.2
      have nC := f2.neF hC
      have nNC : N ≠ C := ne_of_none n2 hC
      refine comp_range (fun j σ H' => ∃ (rs : List Nat) (v : Option V), σ = [v, some (.ref F)] ∧ KB2 F L H2 H' ∧ Feed H' F L ∧ H' C = some (.lst (rs.map fun r => V.int (r : Nat))) ∧ rs.length = j ∧ ∀ r ∈ rs, r < 26)
        ⟨[], none, rfl, (Same.new hC).kb2, f2.same (Same.new hC), upd_same, rfl, fun r hr => (by cases hr)⟩ ?_ ?_
      · rintro j σ H3 hj ⟨rs, v, rfl, k3, f3, c3, lr, hrs⟩
        refine ⟨_, rfl, F, L, 26, rfl, f3, by decide, p26, fun r H4 r1 k4 f4 => ?_⟩
        have c4 := k4 _ _ c3 nC.1 nC.2
        refine ⟨_, c4, ?_, rs ++ [r], _, rfl, KB2.updN (k3.trans k4) hC, f4.upd nC, ?_, ?_, fun x hx => ?_⟩
        · rw [List.length_map]; omega
        · rw [upd_same, List.map_append]; rfl
        · rw [List.length_append, lr]; rfl
        · rcases List.mem_append.mp hx with z | z
          · exact hrs x z
          · rw [List.mem_singleton.mp z]; exact r1
      rintro σ H3 ⟨rs, v, rfl, k3, f3, c3, lr, hrs⟩
      have n3 := k3 _ _ n2 nN.1 nN.2
      have lr' : rs.length = t + 1 := by omega
      dsimp only [gName]
      refine ⟨rfl, _, rfl, C, rfl, ⟨_, .of c3⟩, fun D hD => ?_⟩
      refine comp_list (xs := rs.map fun r => V.int (r : Nat)) (fun j σ H' => ∃ (v : Option V), σ = [v] ∧ Same H3 H' ∧ H' D = some (.lst (((rs.take j).map fun c => wtext [c]).map V.str)))
        ⟨none, ?sg, Same.new hD, upd_same⟩ (fun j σ H' _ ⟨_, _, s, _⟩ => .of (s _ _ c3)) ?_ ?_
      case sg => rfl
      · rintro j y σ H4 hy ⟨v, rfl, s4, e4⟩
        rw [List.getElem?_map] at hy
        obtain ⟨r, er, rfl⟩ := Option.map_eq_some_iff.mp hy
        have hj : j < rs.length := (List.getElem?_eq_some_iff.mp er).1
        refine ⟨_, rfl, abcS, _, 97 + r, rfl, rfl, abcS_len, atI_nat (abc_ix r (hrs r (List.mem_of_getElem? er))), _, e4, ?_, _, rfl, s4.kbn hD KB.write, ?_⟩
        · rw [List.length_map, List.length_map, List.length_take]; omega
        · rw [upd_same, take_snoc er, List.map_append, List.map_append]; rfl
      rintro σ H4 ⟨v, rfl, s4, e4⟩
      rw [List.length_map, List.take_length] at e4
      refine ⟨"", D, rs.map fun c => wtext [c], rfl, rfl, .of e4, ?jl, fun z hz hze => ?_⟩
      case jl =>
        have e0 : (Str.length ("" : Str)) = 0 := rfl
        have e1 : ((rs.map fun c => wtext [c]).map (·.length)).sum = rs.length := by
          rw [List.map_map]
          have : (fun c => (wtext [c]).length) = fun _ => 1 := funext fun c => wtext_len [c]
          show (rs.map fun c => (wtext [c]).length).sum = _
          rw [this, List.map_const']
          induction rs.length with
          | zero => rfl
          | succ n ih => rw [List.replicate_succ, List.sum_cons, ih]; omega
        rw [e0, e1]; omega
      rw [join_w rs (by omega)] at hze
      subst hze
      have wd : Word rs := ⟨by omega, by omega, hrs⟩
      have n4 := s4 _ _ n3
      have k4 : KB2 F L H H4 := ((k1.trans k2).trans k3).trans s4.kb2
      have f4 := f3.same s4
      dsimp only [gName]
      refine while_m (fun mm σ H' => ∃ (l : List Nat) (vis : List Str), mm = 50 - vis.length ∧ σ = [some (.ref F), some (.int (m : Nat)), some (.ref N), some (.int (0 + (i : Int))), some (.ref C), some (.str (wtext l))] ∧ Same H4 H' ∧ Word l ∧ Met (fs ++ noWords) l vis)
        ⟨_, rs, [], rfl, rfl, .refl _, wd, List.nodup_nil, fun v hv => (by cases hv), rk rs, rfl, fun j v hj => (by simp at hj)⟩ ?_ ?_
      · rintro mm σ H5 ⟨l, vis, rfl, rfl, s5, hw, met⟩
        have n5 := s5 _ _ n4
        refine or_abs (c := decide (wtext l ∈ fs ++ noWords)) (Same H5) (fun Qc hq => ?_) (fun H6 s6 => ?_)
        · refine ⟨_, rfl, _, rfl, N, _, rfl, .inl (.of n5), rfl, allflat fs, _, rfl, ?_⟩
          rw [if_neg (by decide), inV_strs]
          refine ite2 (fun z => ?_) (fun z => ?_)
          · have z' : wtext l ∈ fs := of_decide_eq_true z
            have := hq H5 (.refl _)
            rwa [decide_eq_true (List.mem_append.mpr (.inl z'))] at this
          · have z' : wtext l ∉ fs := fun y => z (decide_eq_true y)
            refine ⟨_, rfl, by show 3 ≤ sizeLine; decide, fun Z hZ => ⟨Z, _, rfl, .inr (.of upd_same), rfl, rfl, _, rfl, ?_⟩⟩
            have := hq _ (Same.new (o := .tup [.str "and", .str "not", .str "or"]) hZ)
            have ee : decide (wtext l ∈ fs ++ noWords) = (if false = true then !inV (V.str (wtext l)) [.str "and", .str "not", .str "or"] else inV (V.str (wtext l)) [.str "and", .str "not", .str "or"]) := by
              rw [if_neg (by decide), show ([.str "and", .str "not", .str "or"] : List V) = noWords.map V.str from rfl, inV_strs]
              exact decide_eq_decide.mpr ⟨fun y => (List.mem_append.mp y).resolve_left z', fun y => List.mem_append.mpr (.inr y)⟩
            rw [ee] at this
            exact this
        · refine ite2 (fun z => ?_) (fun z => ?_)
          · have z' := of_decide_eq_true z
            have lB : (fs ++ noWords).length ≤ 20 := by rw [List.length_append]; show fs.length + 3 ≤ 20; omega
            have met' := met.step hw lB z'
            have lv := nodup_len met.once met.sub
            refine ⟨_, rfl, l, rfl, hw, 50 - (vis ++ [wtext l]).length, ?_, aft l, vis ++ [wtext l], rfl, rfl, s5.trans s6, aft_word hw, met'⟩
            rw [List.length_append]
            show 50 - (vis.length + 1) < _
            omega
          · have z' : wtext l ∉ fs ++ noWords := fun y => z (decide_eq_true y)
            have n6 := s6 _ _ n5
            refine ⟨_, rfl, .inl ⟨rfl, _, .of n6⟩, _, rfl, N, _, _, rfl, rfl, n6, ?_, fs ++ [wtext l], _, _, _, rfl, ?_, ?_, ?_, ?_, ?_⟩
            · rw [List.length_map]; omega
            · exact KB2.updN (k4.trans (s5.trans s6).kb2) hN
            · exact (f4.same (s5.trans s6)).upd nN
            · rw [upd_same, List.map_append]; rfl
            · rw [List.length_append, lf]; rfl
            · refine ⟨?_, fun s hs => ?_, fun s hs => ?_⟩
              · rw [List.nodup_append]
                exact ⟨ok.once, by simp, fun a ha b hb e => z' (List.mem_append.mpr (.inl (by rw [← List.mem_singleton.mp hb, ← e]; exact ha)))⟩
              · rcases List.mem_append.mp hs with y | y
                · exact ok.words s y
                · exact ⟨l, hw, List.mem_singleton.mp y⟩
              · rcases List.mem_append.mp hs with y | y
                · exact ok.no s y
                · rw [List.mem_singleton.mp y]; exact fun x => z' (List.mem_append.mpr (.inr x))
      · rintro σ H Q Q' hQ ⟨v, e1, v2, e2, a, xs, e3, e4, e5, e6, b, e7, q⟩
        refine ⟨v, e1, v2, e2, a, xs, e3, e4, e5, e6, b, e7, ?_⟩
        revert q
        cases b with
        | true => exact fun q => hQ _ _ q
        | false =>
          rintro ⟨v, e1, z, q⟩
          refine ⟨v, e1, z, fun p hp => ?_⟩
          obtain ⟨a, xs, e3, e4, e5, e6, b, e7, q⟩ := q p hp
          exact ⟨a, xs, e3, e4, e5, e6, b, e7, hQ _ _ q⟩
    · rintro σ H1 ⟨fs, v3, v4, v5, rfl, k1, f1, n1, lf, ok⟩
      rw [Int.toNat_natCast] at lf
      refine ⟨_, rfl, N, fs, rfl, .of n1, by omega, fun p ss hp perm srt => ?_⟩
      have sp := Same.new (o := .lst (ss.map V.str)) hp
      refine ⟨p, _, rfl, .inl ⟨.of upd_same, fun D hD => ?_⟩⟩
      have sD := Same.new (o := .tup (ss.map V.str)) hD
      have kk := k1.trans sp.kb2
      have ff := f1.same sp
      exact k D ss _ (ff.lo kk hD) (kk.trans sD.kb2) (ff.same sD) upd_same (by rw [perm.length_eq, lf]) (ok.perm perm) srt
end
end My
set_option Elab.async false
set_option linter.all false
set_option maxRecDepth 100000
set_option maxHeartbeats 4000000
namespace My
open PySem L2
structure Moves (n b : Nat) (mv : List (List Nat)) : Prop where
  len : mv.length = n
  lead : ∀ l ∈ mv, l.length = b ∧ ∀ x ∈ l, x < n
def go (mv : List (List Nat)) (r : Nat) (fs : List Nat) : Nat := fs.foldl (fun r f => (mv.getD r []).getD f 0) r
theorem item_at {α : Type} {xs : List α} {i : Nat} (d : α) (h : i < xs.length) : xs[i]? = some (xs.getD i d) := by rw [List.getD_eq_getElem?_getD, List.getElem?_eq_getElem h]; rfl
theorem castI_item {ds : List Nat} {i : Nat} (h : i < ds.length) : ((castI ds).map V.int)[i]? = some (.int (ds.getD i 0 : Nat)) := by
  rw [List.getElem?_map, castI_at, item_at 0 h]; rfl
theorem Moves.at {n b : Nat} {mv : List (List Nat)} (h : Moves n b mv) {r f : Nat} (hr : r < n) (hf : f < b) : ((mv.getD r []).getD f 0) < n := by
  have h1 : mv[r]? = some (mv.getD r []) := item_at [] (by rw [h.len]; exact hr)
  obtain ⟨l1, l2⟩ := h.lead _ (List.mem_of_getElem? h1)
  have h2 := item_at 0 (show f < (mv.getD r []).length by omega)
  exact l2 _ (List.mem_of_getElem? h2)
theorem goM_lt {n b : Nat} {mv : List (List Nat)} (h : Moves n b mv) : ∀ (fs : List Nat) (r : Nat), r < n → (∀ f ∈ fs, f < b) → go mv r fs < n
  | [], r, hr, _ => hr
  | f :: fs, r, hr, hf => goM_lt h fs _ (h.at hr (hf f List.mem_cons_self)) fun g hg => hf g (List.mem_cons_of_mem _ hg)
theorem go_app (mv : List (List Nat)) (r : Nat) (xs : List Nat) (f : Nat) : go mv r (xs ++ [f]) = (mv.getD (go mv r xs) []).getD f 0 := by simp [go, List.foldl_append]
theorem Moves.row {H : Hp} {n b : Nat} {mv : List (List Nat)} {ps : List Addr} (h : Moves n b mv) (tp : Tups H ps (mv.map castI)) {r : Nat} (hr : r < n) :
    ps[r]? = some (ps.getD r 0) ∧ H (ps.getD r 0) = some (.tup ((castI (mv.getD r [])).map V.int)) ∧ (mv.getD r []).length = b := by
  have lp : ps.length = n := by rw [Paired.length tp, List.length_map, h.len]
  have hp := item_at 0 (show r < ps.length by omega)
  obtain ⟨l', hl', el⟩ := tp.get hp
  have hm := item_at [] (show r < mv.length by rw [h.len]; exact hr)
  rw [List.getElem?_map, hm] at hl'
  have := Option.some.inj hl'
  subst this
  exact ⟨hp, el, (h.lead _ (List.mem_of_getElem? hm)).1⟩
def spRoomM (K : PySem.W.Frag) : Sp := fun vs H Q _ => ∃ (ma fa : Addr) (ps : List Addr) (b n rm : Nat) (mv : List (List Nat)) (fs : List Nat), vs = [.ref ma, .int rm, .ref fa] ∧ H ma = some (.tup (ps.map V.ref)) ∧ Tups H ps (mv.map castI) ∧ Moves n b mv ∧
  rm < n ∧ SqL K H fa ((castI fs).map V.int) ∧ (∀ f ∈ fs, f < b) ∧ Q (.int (go mv rm fs : Nat)) H
section
variable {P : Program} {w : World} {K : PySem.W.Frag} {mg : Str → Option Value} {base : Heap}
theorem sc_room_after : FnScope ["moves", "room", "figures", "figure"] ["moves", "room", "figures"] (defScope s_room_after) := ⟨rfl, rfl, rfl, by decide +kernel, rfl, by decide +kernel, by decide +kernel⟩
theorem ok_room_after {a : Adr} (T : Txt K mg a) : FnOk P w K mg base CX0 1 a.f_room_after a.fd_room_after ["moves", "room", "figures"] (spRoomM K) := by
  refine T.F_room_after.ok sc_room_after (fun vs H Q E h => ?_) (fun cdv A outer s H vs Q E hr h => ?_)
  · obtain ⟨ma, fa, ps, b, n, rm, mv, fs, rfl, _⟩ := h
    rfl
  · obtain ⟨ma, fa, ps, b, n, rm, mv, fs, rfl, e3, tp, R, hrm, hF, hf, k⟩ := h
    refine ⟨_, (pss_cons (ps_for PassesOwn.never rfl (pi_list (pv 2)) (pg_name (i := 3) sc_room_after.nd rfl (Or.inl rfl))
      (pss_one (ps_set (i := 1) sc_room_after.nd rfl (Or.inl rfl) (pe_ix (ix_tupK K) (pe_ix (ix_tupK K) (pv 0) (pv 1) (fun _ _ => rfl)) (pv 3) (fun _ _ => rfl)))))
    (pss_one (ps_ret (pv 1)))), ?_⟩
    have lp : ps.length = n := by rw [Paired.length tp, List.length_map, R.len]
    refine ⟨_, rfl, fa, rfl, ⟨_, hF⟩, for_list (xs := (castI fs).map V.int) (fun i σ H' => ∃ v3 : Option V, σ = [some (.ref ma), some (.int (go mv rm (fs.take i) : Nat)), some (.ref fa), v3] ∧ H' = H)
      ⟨none, rfl, rfl⟩ (fun i σ H' _ ⟨_, _, e⟩ => e ▸ hF) ?_ ?_⟩
    · rintro i x σ H' hx ⟨v3, rfl, rfl⟩
      obtain ⟨f, rfl, ef⟩ := natItem hx
      have hfb := hf f (List.mem_of_getElem? ef)
      have hg := goM_lt R (fs.take i) rm hrm fun z hz => hf z (List.mem_of_mem_take hz)
      have hp := item_at 0 (show go mv rm (fs.take i) < ps.length by omega)
      obtain ⟨l', hl', el⟩ := tp.get hp
      rw [List.getElem?_map, item_at [] (show go mv rm (fs.take i) < mv.length by rw [R.len]; exact hg)] at hl'
      have := Option.some.inj hl'
      subst this
      have lb := (R.lead _ (List.mem_of_getElem? (item_at [] (show go mv rm (fs.take i) < mv.length by rw [R.len]; exact hg)))).1
      refine ⟨_, rfl, _, rfl, ma, _, _, _, rfl, rfl, .of e3, atI_nat (v := .ref (ps.getD (go mv rm (fs.take i)) 0)) (by rw [List.getElem?_map, hp]; rfl), _, rfl, _, _, _, _, rfl, rfl, .of el, atI_nat (castI_item (by rw [lb]; exact hfb)), some (.int (f : Int)), ?_, rfl⟩
      rw [take_snoc ef, go_app]
      rfl
    · rintro σ H' ⟨v3, rfl, rfl⟩
      rw [List.length_map, castI_len, List.take_length]
      exact ⟨_, rfl, k⟩
end
def itr (f : Nat → Nat) : Nat → Nat → Nat
  | 0, x => x
  | k + 1, x => f (itr f k x)
theorem itr_add (f : Nat → Nat) : ∀ a b x, itr f (a + b) x = itr f a (itr f b x)
  | 0, b, x => by rw [Nat.zero_add]; rfl
  | a + 1, b, x => by rw [Nat.succ_add]; exact congrArg f (itr_add f a b x)
theorem itr_lt {f : Nat → Nat} {n : Nat} (h : ∀ x, x < n → f x < n) : ∀ k x, x < n → itr f k x < n
  | 0, x, hx => hx
  | k + 1, x, hx => h _ (itr_lt h k x hx)
theorem pig : ∀ (n : Nat) (g : Nat → Nat), (∀ k, k ≤ n → g k < n) → ∃ i j, i < j ∧ j ≤ n ∧ g i = g j
  | 0, g, h => absurd (h 0 (Nat.le_refl _)) (Nat.not_lt_zero _)
  | n + 1, g, h => by
    by_cases e : ∃ i, i ≤ n ∧ g i = g (n + 1)
    · obtain ⟨i, hi, e⟩ := e
      exact ⟨i, n + 1, by omega, Nat.le_refl _, e⟩
    · have ne : ∀ i, i ≤ n → g i ≠ g (n + 1) := fun i hi z => e ⟨i, hi, z⟩
      have hv := h (n + 1) (Nat.le_refl _)
      obtain ⟨i, j, hij, hj, eq⟩ := pig n (fun k => if g (n + 1) < g k then g k - 1 else g k) (fun k hk => by
        have h1 := h k (by omega)
        have h2 := ne k hk
        show (if g (n + 1) < g k then g k - 1 else g k) < n
        split <;> omega)
      refine ⟨i, j, hij, by omega, ?_⟩
      have h1 := ne i (by omega)
      have h2 := ne j hj
      have eq' : (if g (n + 1) < g i then g i - 1 else g i) = (if g (n + 1) < g j then g j - 1 else g j) := eq
      split at eq' <;> split at eq' <;> omega
theorem ring {f : Nat → Nat} {n r : Nat} (h : ∀ x, x < n → f x < n) (hr : r < n) : ∃ p, 0 < p ∧ p ≤ n ∧ itr f p (itr f n r) = itr f n r := by
  obtain ⟨i, j, hij, hj, e⟩ := pig n (fun k => itr f k r) (fun k _ => itr_lt h k r hr)
  refine ⟨j - i, by omega, by omega, ?_⟩
  have e1 : itr f n r = itr f (n - j) (itr f j r) := by rw [← itr_add]; congr 1; omega
  have e2 : itr f (j - i) (itr f n r) = itr f (n - i) (itr f j r) := by rw [e1, ← itr_add]; congr 1; omega
  have e3 : itr f n r = itr f (n - i) (itr f i r) := by rw [← itr_add]; congr 1; omega
  rw [e2, e3]
  exact congrArg _ e.symm
def spRings : Sp := fun vs H Q _ => ∃ (M : Addr) (ps : List Addr) (n b : Nat) (mv : List (List Nat)), vs = [.ref M] ∧ H M = some (.lst (ps.map V.ref)) ∧ Tups H ps (mv.map castI) ∧ Moves n b mv ∧ 0 < b ∧ n ≤ 2000 ∧
  ∀ (D : Addr) (rs : List Nat) (H' : Hp), H D = none → Same H H' → H' D = some (.lst ((castI rs).map V.int)) → rs.length = n → (∀ r ∈ rs, r < n) → Q (.ref D) H'
section
variable {P : Program} {w : World} {K : PySem.W.Frag} {mg : Str → Option Value} {base : Heap}
theorem sc_l_rings : FnScope ["_law_moves", "_law_found", "_law_room", "_law_at", "_law_turn", "_law_ring"] ["_law_moves"] (defScope s_l_rings) := ⟨rfl, rfl, rfl, by decide +kernel, rfl, by decide +kernel, by decide +kernel⟩
theorem ok_l_rings {a : Adr} (T : Txt K mg a) : FnOk P w K mg base CX0 1 a.f_l_rings a.fd_l_rings ["_law_moves"] spRings := by
  refine T.F_l_rings.ok sc_l_rings (fun vs H Q E h => ?_) (fun cdv A outer s H vs Q E hr h => ?_)
  · obtain ⟨M, ps, n, b, mv, rfl, _⟩ := h
    rfl
  · obtain ⟨M, ps, n, b, mv, rfl, eM, tp, hm, hb, hn, k⟩ := h
    refine ⟨_, (pss_cons (ps_set (i := 1) sc_l_rings.nd rfl (Or.inl rfl) (pe_lst pa_nil))
    (pss_cons (ps_for PassesOwn.never rfl (pi_range1 rfl T.z_range (pa_cons (pe_callB (call_lenK K) (by rfl) T.z_len bt_len (pa_cons (pv 0) pa_nil)) pa_nil)) (pg_name (i := 2) sc_l_rings.nd rfl (Or.inl rfl))
      (pss_cons (ps_set (i := 3) sc_l_rings.nd rfl (Or.inl rfl) (pv 2))
      (pss_cons (ps_for PassesOwn.never rfl (pi_list (pv 0)) (pg_name (i := 4) sc_l_rings.nd rfl (Or.inl rfl))
        (pss_one (ps_set (i := 3) sc_l_rings.nd rfl (Or.inl rfl) (pe_ix (ix_tupK K) (pe_ix (ix_listK K) (pv 0) (pv 3) (fun _ _ => rfl)) pe_int (fun _ _ => rfl)))))
      (pss_cons (ps_set (i := 5) sc_l_rings.nd rfl (Or.inl rfl) (pe_lst (pa_cons (pv 3) pa_nil)))
      (pss_cons (ps_while PassesOwn.never (pt_cmpR op_ne (pe_ix (ix_tupK K) (pe_ix (ix_listK K) (pv 0) (pe_ix (ix_listK K) (pv 5) (pe_un un_neg pe_int) (fun _ _ => rfl)) (fun _ _ => rfl)) pe_int (fun _ _ => rfl)) (pv 3) (nomark _))
        (pss_one (ps_expr (pe_bm PySem.F.plainAttrs_list PySem.F.slot_list_append PySem.F.type_list_append mt_append (pv 5) (pa_cons (pe_ix (ix_tupK K) (pe_ix (ix_listK K) (pv 0) (pe_ix (ix_listK K) (pv 5) (pe_un un_neg pe_int) (fun _ _ => rfl)) (fun _ _ => rfl)) pe_int (fun _ _ => rfl)) pa_nil)))))
      (pss_one (ps_expr (pe_bm PySem.F.plainAttrs_list PySem.F.slot_list_append PySem.F.type_list_append mt_append (pv 1) (pa_cons (pe_callB (call_minK K rfl) (by rfl) T.z_min bt_min (pa_cons (pv 5) pa_nil)) pa_nil)))))))))
    (pss_one (ps_ret (pv 1))))), ?_⟩
    have big : (10000 : Nat) ≤ sizeLine := by decide
    have lp : ps.length = n := by rw [Paired.length tp, List.length_map, hm.len]
    let f : Nat → Nat := fun x => (mv.getD x []).getD 0 0
    have hf : ∀ x, x < n → f x < n := fun x hx => hm.at hx hb
    have look : ∀ {H' : Hp} (x : Nat), Same H H' → x < n → SqL K H' M (ps.map V.ref) ∧ atI (ps.map V.ref) (x : Int) = some (.ref (ps.getD x 0)) ∧ SqT K H' (ps.getD x 0) ((castI (mv.getD x [])).map V.int) ∧ atI ((castI (mv.getD x [])).map V.int) 0 = some (.int (f x : Nat)) := fun x s hx => by
      obtain ⟨h1, h2, h3⟩ := hm.row tp hx
      exact ⟨.of (s _ _ eM), atI_nat (by rw [List.getElem?_map, h1]; rfl), .of (s _ _ h2), atI_nat (j := 0) (castI_item (by omega))⟩
    refine ⟨by decide, fun D hD => ?_⟩
    have sD := Same.new (o := .lst []) hD
    have nMD : M ≠ D := ne_of_none eM hD
    refine ⟨_, rfl, _, n, rfl, .inl ⟨_, .of (sD _ _ eM), by rw [List.length_map, lp]⟩, _, rfl, by omega, by omega, for_range (n := (n : Int).toNat) (fun i σ H' => ∃ (rs : List Nat) (v2 v3 v4 v5 : Option V), σ = [some (.ref M), some (.ref D), v2, v3, v4, v5] ∧ Same H H' ∧ H' D = some (.lst ((castI rs).map V.int)) ∧ rs.length = i ∧ ∀ r ∈ rs, r < n)
      ⟨[], none, none, none, none, rfl, sD, upd_same, rfl, fun r hr => (by cases hr)⟩ ?_ ?_⟩
    · rintro i σ H1 hi ⟨rs, v2, v3, v4, v5, rfl, s1, d1, lr, hrs⟩
      rw [Int.toNat_natCast] at hi
      have ei : (0 : Int) + (i : Int) = ((itr f 0 i : Nat) : Int) := by show _ = (i : Int); omega
      dsimp only [gName]
      refine ⟨_, rfl, _, rfl, M, rfl, ⟨_, .of (s1 _ _ eM)⟩, for_list (xs := ps.map V.ref) (fun j σ H' => ∃ v4 : Option V, σ = [some (.ref M), some (.ref D), some (.int (0 + (i : Int))), some (.int (itr f j i : Nat)), v4, v5] ∧ H' = H1)
        ⟨v4, ?st, rfl⟩ (fun j σ H' _ ⟨_, _, e⟩ => by rw [e]; exact .of (s1 _ _ eM)) ?_ ?_⟩
      case st => rw [← ei]; rfl
      · rintro j x σ H2 hx ⟨v4, rfl, rfl⟩
        obtain ⟨l1, l2, l3, l4⟩ := look (itr f j i) s1 (itr_lt hf j i hi)
        exact ⟨_, rfl, _, rfl, M, _, _, _, rfl, rfl, l1, l2, _, _, _, _, rfl, rfl, l3, l4, some x, rfl, rfl⟩
      rintro σ H2 ⟨v4, rfl, rfl⟩
      rw [List.length_map, lp]
      have hat := itr_lt hf n i hi
      obtain ⟨p, hp0, hpn, hp⟩ := ring hf hi
      generalize itr f n i = at_ at hat hp ⊢
      refine ⟨_, rfl, by show 1 ≤ sizeLine; decide, fun R hR => ?_⟩
      have sR := Same.new (o := .lst [.int (at_ : Nat)]) hR
      have nRD : D ≠ R := ne_of_none d1 hR
      have nR0 : H R = none := s1.free hR
      dsimp only [gName]
      refine while_m (fun m σ H' => ∃ (ks : List Nat) (j : Nat), m = p - j ∧ j < p ∧ σ = [some (.ref M), some (.ref D), some (.int (0 + (i : Int))), some (.int (at_ : Nat)), v4, some (.ref R)] ∧ Same H H' ∧ H' D = some (.lst ((castI rs).map V.int)) ∧ H' R = some (.lst ((castI (ks ++ [itr f j at_])).map V.int)) ∧ ks.length = j ∧ (∀ x ∈ ks, x < n))
        ⟨_, [], 0, rfl, hp0, rfl, s1.trans sR, by rw [upd_ne nRD]; exact d1, upd_same, rfl, fun x hx => (by cases hx)⟩ ?_ ?_
      · rintro m σ H2 ⟨ks, j, rfl, hj, rfl, s2, d2, r2, lk, hks⟩
        have hc := itr_lt hf j at_ hat
        have stp : itr f (j + 1) at_ = f (itr f j at_) := rfl
        obtain ⟨l1, l2, l3, l4⟩ := look (itr f j at_) s2 hc
        have lst : ∀ c : Nat, (castI (ks ++ [c])).map V.int = (castI ks).map V.int ++ [.int (c : Nat)] := fun c => by rw [castI_app, List.map_append]; rfl
        have la : atI ((castI (ks ++ [itr f j at_])).map V.int) (-1) = some (.int (itr f j at_ : Nat)) := by rw [lst]; exact atI_last _ _
        have len : ((castI (ks ++ [itr f j at_])).map V.int).length < sizeLine := by rw [List.length_map, castI_len, List.length_append, lk]; show j + 1 < _; omega
        generalize itr f j at_ = c at *
        refine ⟨_, rfl, _, rfl, _, rfl, R, _, _, _, rfl, rfl, .of r2, la, M, _, _, _, rfl, rfl, l1, l2, _, _, _, _, rfl, rfl, l3, l4, _, rfl, rfl, _, rfl, ?_⟩
        refine ite2 (fun z => ?_) (fun _ => ?_)
        · have ne : f c ≠ at_ := fun y => by rw [y] at z; simp at z
          have lt : j + 1 < p := by
            rcases Nat.lt_or_ge (j + 1) p with y | y
            · exact y
            · have e : p = j + 1 := by omega
              rw [e, stp] at hp
              exact absurd hp ne
          refine ⟨_, rfl, .inl ⟨rfl, _, .of r2⟩, _, rfl, _, rfl, _, rfl, R, _, _, _, rfl, rfl, .of r2, la, M, _, _, _, rfl, rfl, l1, l2, _, _, _, _, rfl, rfl, l3, l4, R, _, _, rfl, rfl, r2, len, p - (j + 1), by omega, ks ++ [c], j + 1, rfl, lt, rfl, s2.kbn nR0 KB.write, by rw [upd_ne nRD]; exact d2, ?_, by rw [List.length_append, lk]; rfl, fun x hx => ?_⟩
          · rw [upd_same, stp, castI_app (ks ++ [c]), List.map_append]; rfl
          · rcases List.mem_append.mp hx with y | y
            · exact hks x y
            · rw [List.mem_singleton.mp y]; exact hc
        · refine ⟨_, rfl, .inl ⟨rfl, _, .of d2⟩, _, rfl, R, _, rfl, .of r2, ?nn, fun m hmm => ?_⟩
          case nn => intro z; have := congrArg List.length z; rw [castI_len, List.length_append] at this; cases this
          obtain ⟨x, hx, rfl⟩ := List.mem_map.mp hmm
          have hxn : x < n := by
            rcases List.mem_append.mp hx with y | y
            · exact hks x y
            · rw [List.mem_singleton.mp y]; exact hc
          refine ⟨D, _, _, rfl, rfl, d2, ?_, rs ++ [x], _, _, _, _, rfl, s2.kbn hD KB.write, ?_, by rw [List.length_append, lr]; rfl, fun r hr => ?_⟩
          · rw [List.length_map, castI_len]; omega
          · rw [upd_same, castI_app, List.map_append]; rfl
          · rcases List.mem_append.mp hr with y | y
            · exact hrs r y
            · rw [List.mem_singleton.mp y]; exact hxn
      · rintro σ H Q Q' hQ ⟨v1, e1, v2, e2, v3, e3, a1, x1, i1, w1, e4, e5, h6, h7, a2, x2, i2, w2, e8, e9, h10, h11, a3, x3, i3, w3, e12, e13, h14, h15, v4, e16, e17, b, e18, q⟩
        exact ⟨v1, e1, v2, e2, v3, e3, a1, x1, i1, w1, e4, e5, h6, h7, a2, x2, i2, w2, e8, e9, h10, h11, a3, x3, i3, w3, e12, e13, h14, h15, v4, e16, e17, b, e18, hQ _ _ q⟩
    · rintro σ H1 ⟨rs, v2, v3, v4, v5, rfl, s1, d1, lr, hrs⟩
      rw [Int.toNat_natCast] at lr
      exact ⟨_, rfl, k D rs H1 hD s1 d1 lr hrs⟩
end
end My
set_option Elab.async false
set_option linter.all false
set_option maxRecDepth 100000
set_option maxHeartbeats 4000000
namespace My
open PySem L2
theorem Feed.ktu {H H' : Hp} {F L : Addr} (h : Feed H F L) (k : KB2 F L H H') : KTu H H' := fun b ys e => by
  obtain ⟨ms, n, sd, e1, e2, _⟩ := h.ex
  exact k b _ e (ne_of e e1 (fun z => nomatch z)) (ne_of e e2 (fun z => nomatch z))
def MachAt (H : Hp) (ma nm : Addr) (bs : List Bool) (mv : List (List Nat)) : Prop := ∃ (ya va : Addr) (ps : List Addr), H ma = some (.tup [.ref nm, .ref ya, .ref va]) ∧ H ya = some (.tup (bs.map V.bl)) ∧ H va = some (.tup (ps.map V.ref)) ∧ Tups H ps (mv.map castI)
theorem MachAt.keep {H H' : Hp} {ma nm : Addr} {bs : List Bool} {mv : List (List Nat)} (h : MachAt H ma nm bs mv) (k : KTu H H') : MachAt H' ma nm bs mv := by
  obtain ⟨ya, va, ps, h1, h2, h3, h4⟩ := h
  exact ⟨ya, va, ps, k _ _ h1, k _ _ h2, k _ _ h3, h4.keep k⟩
def spMachine : Sp := fun vs H Q _ => ∃ (F L nm : Addr) (b most : Nat) (ss : List Str), vs = [.ref F, .int b, .ref nm, .int most] ∧ Feed H F L ∧ 2 ≤ b ∧ b ≤ 4 ∧ H nm = some (.tup (ss.map V.str)) ∧ ss.length ≤ 3 ∧ 0 < most ∧ most ≤ 1000 ∧
  ∀ (ma : Addr) (bs : List Bool) (mv : List (List Nat)) (H' : Hp), H ma = none → KB2 F L H H' → Feed H' F L → MachAt H' ma nm bs mv → Moves bs.length (b ^ ss.length) mv → 0 < bs.length → bs.length ≤ most → Q (.ref ma) H'
section
variable {P : Program} {w : World} {K : PySem.W.Frag} {mg : Str → Option Value} {base : Heap}
theorem sc_l_machine : FnScope ["_law_feed_here", "_law_base", "_law_names_here", "_law_most", "_law_many", "_law_letters", "_law_name", "_law_moves", "_law_room", "_law_yes"] ["_law_feed_here", "_law_base", "_law_names_here", "_law_most"] (defScope s_l_machine) := ⟨rfl, rfl, rfl, by decide +kernel, rfl, by decide +kernel, by decide +kernel⟩
theorem ok_l_machine {a : Adr} (T : Txt K mg a) : FnOk P w K mg base CX0 2 a.f_l_machine a.fd_l_machine ["_law_feed_here", "_law_base", "_law_names_here", "_law_most"] spMachine := by
  have G_l_draw : FnOk P w K mg base CX0 1 a.f_l_draw a.fd_l_draw ["_law_feed_here", "_law_many"] spDraw := ok_l_draw T
  have G_l_rings : FnOk P w K mg base CX0 1 a.f_l_rings a.fd_l_rings ["_law_moves"] spRings := ok_l_rings T
  refine T.F_l_machine.ok sc_l_machine (fun vs H Q E h => ?_) (fun cdv A outer s H vs Q E hr h => ?_)
  · obtain ⟨F, L, nm, b, most, ss, rfl, _⟩ := h
    rfl
  · obtain ⟨F, L, nm, b, most, ss, rfl, hf, hb2, hb4, enm, lss, hm0, hm1, k⟩ := h
    have hr_l_draw : Room 1 _ := hr
    have hr_l_rings : Room 1 _ := hr
    refine ⟨_, (pss_cons (ps_set (i := 4) sc_l_machine.nd rfl (Or.inr rfl) (pe_op op_add pe_int (pe_call G_l_draw hr_l_draw rfl T.m_l_draw T.k_l_draw T.b_l_draw .nil pass0 (pa_cons (pv 0) (pa_cons (pv 3) pa_nil)))))
    (pss_cons (ps_set (i := 5) sc_l_machine.nd rfl (Or.inl rfl) pe_int)
    (pss_cons (ps_for PassesOwn.never rfl (pi_tup (pv 2)) (pg_name (i := 6) sc_l_machine.nd rfl (Or.inl rfl))
      (pss_one (ps_set (i := 5) sc_l_machine.nd rfl (Or.inl rfl) (pe_op op_mul (pv 5) (pv 1)))))
    (pss_cons (ps_set (i := 7) sc_l_machine.nd rfl (Or.inl rfl) (pe_lst pa_nil))
    (pss_cons (ps_for PassesOwn.never rfl (pi_range1 rfl T.z_range (pa_cons (pv 4) pa_nil)) (pg_name (i := 8) sc_l_machine.nd rfl (Or.inl rfl))
      (pss_one (ps_expr (pe_bm PySem.F.plainAttrs_list PySem.F.slot_list_append PySem.F.type_list_append mt_append (pv 7) (pa_cons (pe_callTy (call_tupleK K) (by rfl) T.z_tuple bt_tuple (pa_cons (pe_comp (CompScope.mk' (esc := defScope s_l_machine) (N := ["_law_feed_here", "_law_base", "_law_names_here", "_law_most", "_law_many", "_law_letters", "_law_name", "_law_moves", "_law_room", "_law_yes"]) (own := ["_law_letter"]) (frn := ["_law_feed_here", "_law_many"]) (frj := [0, 4]) rfl rfl (by decide +kernel)) rfl (pi_range1 rfl T.z_range (pa_cons (pv 5) pa_nil)) (fun _ _ _ _ => (pg_name (i := 0) (show List.Nodup (["_law_letter", "_law_feed_here", "_law_many"] : List Str) by decide +kernel) rfl (Or.inl rfl))) (fun _ _ _ _ => pifs_nil) (fun _ _ _ _ => (pe_call G_l_draw hr_l_draw rfl T.m_l_draw T.k_l_draw T.b_l_draw .nil pass0 (pa_cons (pv 1) (pa_cons (pv 2) pa_nil))))) pa_nil)) pa_nil)))))
    (pss_cons (ps_set (i := 9) sc_l_machine.nd rfl (Or.inr rfl) (pe_comp (CompScope.mk' (esc := defScope s_l_machine) (N := ["_law_feed_here", "_law_base", "_law_names_here", "_law_most", "_law_many", "_law_letters", "_law_name", "_law_moves", "_law_room", "_law_yes"]) (own := ["_law_room"]) (frn := ["_law_feed_here"]) (frj := [0]) rfl rfl (by decide +kernel)) rfl (pi_list (pv 7)) (fun _ _ _ _ => (pg_name (i := 0) (show List.Nodup (["_law_room", "_law_feed_here"] : List Str) by decide +kernel) rfl (Or.inl rfl))) (fun _ _ _ _ => pifs_nil) (fun _ _ _ _ => (pe_cmpR op_eq (pe_call G_l_draw hr_l_draw rfl T.m_l_draw T.k_l_draw T.b_l_draw .nil pass0 (pa_cons (pv 1) (pa_cons pe_int pa_nil))) pe_int (nomark _)))))
    (pss_one (ps_ret (pe_tup (pa_cons (pv 2) (pa_cons (pe_callTy (call_tupleK K) (by rfl) T.z_tuple bt_tuple (pa_cons (pe_comp (CompScope.mk' (esc := defScope s_l_machine) (N := ["_law_feed_here", "_law_base", "_law_names_here", "_law_most", "_law_many", "_law_letters", "_law_name", "_law_moves", "_law_room", "_law_yes"]) (own := ["_law_room"]) (frn := ["_law_yes"]) (frj := [9]) rfl rfl (by decide +kernel)) rfl (pi_list (pe_call G_l_rings hr_l_rings rfl T.m_l_rings T.k_l_rings T.b_l_rings .nil pass0 (pa_cons (pv 7) pa_nil))) (fun _ _ _ _ => (pg_name (i := 0) (show List.Nodup (["_law_room", "_law_yes"] : List Str) by decide +kernel) rfl (Or.inl rfl))) (fun _ _ _ _ => pifs_nil) (fun _ _ _ _ => (pe_ix (ix_listK K) (pv 1) (pv 0) (fun _ _ => rfl)))) pa_nil)) (pa_cons (pe_callTy (call_tupleK K) (by rfl) T.z_tuple bt_tuple (pa_cons (pv 7) pa_nil)) pa_nil)))))))))))), ?_⟩
    have p10 : (2 ^ 10 : Nat) < 2 ^ 1000 := Nat.pow_lt_pow_right (by decide) (by decide)
    have big : (10000 : Nat) ≤ sizeLine := by decide
    have small : ∀ x : Nat, x ≤ 1000 → x < 2 ^ 1000 := fun x hx => Nat.lt_trans (show x < 2 ^ 10 by omega) p10
    refine ⟨_, rfl, _, rfl, F, L, most, rfl, hf, hm0, small _ hm1, fun r H1 r1 k1 f1 => ⟨_, _, rfl, rfl, ?_⟩⟩
    have en : (1 : Int) + (r : Int) = ((1 + r : Nat) : Int) := by omega
    dsimp only [tSeq, tAsg, tC, gName]
    have k1t := hf.ktu k1
    rw [en]
    generalize hN : 1 + r = n
    have n0 : 0 < n := by omega
    have n1 : n ≤ most := by omega
    refine ⟨_, rfl, nm, rfl, ⟨_, .of (k1t _ _ enm)⟩, for_tup (xs := ss.map V.str) (fun i σ H' => ∃ v6 : Option V, σ = [some (.ref F), some (.int (b : Nat)), some (.ref nm), some (.int (most : Nat)), some (.int (n : Nat)), some (.int (b ^ i : Nat)), v6, none, none, none] ∧ H' = H1)
      ⟨none, rfl, rfl⟩ (fun i σ H' _ ⟨_, _, e⟩ => by rw [e]; exact .of (k1t _ _ enm)) ?_ ?_⟩
    · rintro i x σ H2 hx ⟨v6, rfl, rfl⟩
      have hi : i < ss.length := by have := (List.getElem?_eq_some_iff.mp hx).1; rwa [List.length_map] at this
      refine ⟨_, rfl, _, rfl, _, _, rfl, rfl, .inr (by constructor <;> omega), some x, ?_, rfl⟩
      have e1 : (b ^ (i + 1) : Nat) = b ^ i * b := Nat.pow_succ ..
      have e2 : ((b ^ i : Nat) : Int) * (b : Int) = ((b ^ (i + 1) : Nat) : Int) := by rw [e1, Int.natCast_mul]
      rw [← e2]
      rfl
    rintro σ H2 ⟨v6, rfl, rfl⟩
    rw [List.length_map]
    have hbl : 0 < b ^ ss.length := Nat.pow_pos (by omega)
    have hbl2 : b ^ ss.length ≤ 64 := Nat.le_trans (Nat.pow_le_pow_left hb4 _) (Nat.le_trans (Nat.pow_le_pow_right (show 0 < 4 by decide) lss) (by decide))
    generalize b ^ ss.length = B at hbl hbl2 k ⊢
    refine ⟨by decide, fun M hM => ?_⟩
    have nM := f1.neF hM
    have hM0 := f1.lo k1 hM
    dsimp only [gName]
    refine ⟨_, rfl, _, rfl, by omega, by omega, for_range (n := (n : Int).toNat) (fun i σ H' => ∃ (ps : List Addr) (mv : List (List Nat)) (v8 : Option V), σ = [some (.ref F), some (.int (b : Nat)), some (.ref nm), some (.int (most : Nat)), some (.int (n : Nat)), some (.int (B : Nat)), v6, some (.ref M), v8, none] ∧ KB2 F L H H' ∧ Feed H' F L ∧ H' M = some (.lst (ps.map V.ref)) ∧ Tups H' ps (mv.map castI) ∧ mv.length = i ∧ ∀ l ∈ mv, l.length = B ∧ ∀ x ∈ l, x < n)
      ⟨[], [], none, rfl, k1.trans (Same.new hM).kb2, f1.same (Same.new hM), upd_same, .nil, rfl, fun l hl => (by cases hl)⟩ ?_ ?_⟩
    · rintro i σ H2 hi ⟨ps, mv, v8, rfl, k2, f2, m2, tp2, lm, ok⟩
      rw [Int.toNat_natCast] at hi
      refine ⟨_, rfl, .inl ⟨rfl, _, .of m2⟩, _, rfl, _, rfl, by omega, by omega, fun C hC => ?_⟩
      have nC := f2.neF hC
      have hC0 := f2.lo k2 hC
      have nMC : M ≠ C := ne_of_none m2 hC
      refine comp_range (fun j σ H' => ∃ (rs : List Nat) (v : Option V), σ = [v, some (.ref F), some (.int (n : Nat))] ∧ KB2 F L H2 H' ∧ Feed H' F L ∧ H' C = some (.lst ((castI rs).map V.int)) ∧ rs.length = j ∧ ∀ r ∈ rs, r < n)
        ⟨[], none, ?sg, (Same.new hC).kb2, f2.same (Same.new hC), upd_same, rfl, fun r hr => (by cases hr)⟩ ?_ ?_
      case sg => rfl
      · rintro j σ H3 hj ⟨rs, v, rfl, k3, f3, c3, lr, hrs⟩
        rw [Int.toNat_natCast] at hj
        refine ⟨_, rfl, _, rfl, F, L, n, rfl, f3, n0, small _ (by omega), fun q H4 q1 k4 f4 => ?_⟩
        refine ⟨_, k4 _ _ c3 nC.1 nC.2, ?_, rs ++ [q], _, rfl, KB2.updN (k3.trans k4) hC, f4.upd nC, ?_, by rw [List.length_append, lr]; rfl, fun x hx => ?_⟩
        · rw [List.length_map, castI_len]; omega
        · rw [upd_same, castI_app, List.map_append]; rfl
        · rcases List.mem_append.mp hx with z | z
          · exact hrs x z
          · rw [List.mem_singleton.mp z]; exact q1
      rintro σ H3 ⟨rs, v, rfl, k3, f3, c3, lr, hrs⟩
      rw [Int.toNat_natCast] at lr
      have m3 := k3 _ _ m2 nM.1 nM.2
      refine ⟨C, _, rfl, .inl ⟨.of c3, fun D hD => ?_⟩⟩
      have sD := Same.new (o := .tup ((castI rs).map V.int)) hD
      have m4 := sD _ _ m3
      have tp4 : Tups (upd H3 D (.tup ((castI rs).map V.int))) ps (mv.map castI) := (tp2.keep (f2.ktu k3)).keep sD.kt
      have lps : ps.length = i := by rw [Paired.length tp2, List.length_map, lm]
      have ktM : KTu (upd H3 D (.tup ((castI rs).map V.int))) (upd (upd H3 D (.tup ((castI rs).map V.int))) M (.lst (ps.map V.ref ++ [.ref D]))) := KTu.lst m4
      refine ⟨M, _, _, rfl, rfl, m4, ?_, ps ++ [D], mv ++ [rs], _, rfl, ?_, ?_, ?_, ?_, by rw [List.length_append, lm]; rfl, fun l hl => ?_⟩
      · rw [List.length_map, lps]; omega
      · exact KB2.updN ((k2.trans k3).trans sD.kb2) hM0
      · exact (f3.same sD).upd nM
      · rw [upd_same, List.map_append]; rfl
      · rw [List.map_append]
        exact paired_append (tp4.keep ktM) (.cons (ktM _ _ upd_same) .nil)
      · rcases List.mem_append.mp hl with z | z
        · exact ok l z
        · rw [List.mem_singleton.mp z]; exact ⟨lr, hrs⟩
    rintro σ H2 ⟨ps, mv, v8, rfl, k2, f2, m2, tp2, lm, ok⟩
    rw [Int.toNat_natCast] at lm
    have mvs : Moves n B mv := ⟨lm, ok⟩
    have lps : ps.length = n := by rw [Paired.length tp2, List.length_map, lm]
    dsimp only [gName]
    refine ⟨_, rfl, M, rfl, ⟨_, .of m2⟩, fun Y hY => ?_⟩
    have nY := f2.neF hY
    have nMY : M ≠ Y := ne_of_none m2 hY
    refine comp_list (xs := ps.map V.ref) (fun j σ H' => ∃ (bs : List Bool) (v : Option V), σ = [v, some (.ref F)] ∧ KB2 F L H2 H' ∧ Feed H' F L ∧ H' Y = some (.lst (bs.map V.bl)) ∧ bs.length = j)
      ⟨[], none, ?sg, (Same.new hY).kb2, f2.same (Same.new hY), upd_same, rfl⟩ (fun j σ H' _ ⟨_, _, _, k', _⟩ => .of (k' _ _ m2 nM.1 nM.2)) ?_ ?_
    case sg => rfl
    · rintro j x σ H3 hx ⟨bs, v, rfl, k3, f3, y3, lb⟩
      have hj : j < ps.length := by have := (List.getElem?_eq_some_iff.mp hx).1; rwa [List.length_map] at this
      refine ⟨_, rfl, F, L, 2, rfl, f3, by decide, small _ (by decide), fun q H4 q1 k4 f4 => ⟨rfl, ?_⟩⟩
      refine ⟨_, k4 _ _ y3 nY.1 nY.2, ?_, bs ++ [decide (V.int (q : Nat) = V.int 0)], _, rfl, KB2.updN (k3.trans k4) hY, f4.upd nY, ?_, by rw [List.length_append, lb]; rfl⟩
      · rw [List.length_map]; omega
      · rw [upd_same, List.map_append]; rfl
    rintro σ H3 ⟨bs, v, rfl, k3, f3, y3, lb⟩
    rw [List.length_map, lps] at lb
    have m3 := k3 _ _ m2 nM.1 nM.2
    have tp3 := tp2.keep (f2.ktu k3)
    have enm3 := hf.ktu (k2.trans k3) _ _ enm
    have kk := k2.trans k3
    dsimp only [gName]
    refine ⟨_, rfl, _, rfl, M, ps, n, B, mv, rfl, m3, tp3, mvs, hbl, by omega, fun R rs H4 hR s4 r4 lr hrs => ?_⟩
    have y4 := s4 _ _ y3
    refine ⟨R, rfl, ⟨_, .of r4⟩, fun C hC => ?_⟩
    refine comp_list (xs := (castI rs).map V.int) (fun j σ H' => ∃ (cs : List Bool) (v : Option V), σ = [v, some (.ref Y)] ∧ Same H4 H' ∧ H' C = some (.lst (cs.map V.bl)) ∧ cs.length = j)
      ⟨[], none, ?sg2, Same.new hC, upd_same, rfl⟩ (fun j σ H' _ ⟨_, _, _, s', _⟩ => .of (s' _ _ r4)) ?_ ?_
    case sg2 => rfl
    · rintro j x σ H5 hx ⟨cs, v, rfl, s5, c5, lc⟩
      obtain ⟨q, rfl, eq⟩ := natItem hx
      have hq := hrs q (List.mem_of_getElem? eq)
      have hj : j < rs.length := (List.getElem?_eq_some_iff.mp eq).1
      obtain ⟨y, ey⟩ : ∃ y, bs[q]? = some y := ⟨_, List.getElem?_eq_getElem (by omega)⟩
      refine ⟨_, rfl, _, rfl, Y, _, _, .bl y, rfl, rfl, .of (s5 _ _ y4), atI_nat (by rw [List.getElem?_map, ey]; rfl), _, c5, ?_, cs ++ [y], _, rfl, s5.kbn hC KB.write, ?_, by rw [List.length_append, lc]; rfl⟩
      · rw [List.length_map]; omega
      · rw [upd_same, List.map_append]; rfl
    rintro σ H5 ⟨cs, v, rfl, s5, c5, lc⟩
    rw [List.length_map, castI_len, lr] at lc
    refine ⟨C, _, rfl, .inl ⟨.of c5, fun D hD => ?_⟩⟩
    have sD := Same.new (o := .tup (cs.map V.bl)) hD
    have s35 := (s4.trans s5).trans sD
    refine ⟨_, rfl, M, _, rfl, .inl ⟨.of (s35 _ _ m3), fun N hN => ?_⟩⟩
    have sN := Same.new (o := .tup (ps.map V.ref)) hN
    refine ⟨by show 3 ≤ sizeLine; decide, fun ma hma => ?_⟩
    have sma := Same.new (o := .tup [.ref nm, .ref D, .ref N]) hma
    have sAll := s35.trans sN
    refine k ma cs mv _ (Feed.lo (f3.same sAll) (kk.trans sAll.kb2) hma) (kk.trans (sAll.trans sma).kb2) (f3.same (sAll.trans sma)) ⟨D, N, ps, upd_same, sma _ _ (sN _ _ upd_same), sma _ _ upd_same, tp3.keep (sAll.trans sma).kt⟩ (by rw [lc]; exact mvs) (by omega) (by omega)
end
end My
set_option Elab.async false
set_option linter.all false
set_option maxRecDepth 100000
set_option maxHeartbeats 4000000
namespace My
open PySem L2
def msays (b : Nat) (bs : List Bool) (mv : List (List Nat)) (ns : List Nat) : Bool := bs.getD (go mv 0 (ltrs b ns)) false
theorem ltrs_lt {b : Nat} (hb : 0 < b) (ns : List Nat) : ∀ f ∈ ltrs b ns, f < b ^ ns.length := fun f hf => by
  obtain ⟨p, _, rfl⟩ := List.mem_map.mp hf
  exact ltr_lt hb ns p
def spSays (K : PySem.W.Frag) : Sp := fun vs H Q _ => ∃ (b : Nat) (ma na nm : Addr) (bs : List Bool) (mv : List (List Nat)) (ns : List Nat), vs = [.int b, .ref ma, .ref na] ∧ 2 ≤ b ∧ b ≤ 4 ∧ MachAt H ma nm bs mv ∧ Moves bs.length (b ^ ns.length) mv ∧ 0 < bs.length ∧ H na = some (.tup ((castI ns).map V.int)) ∧ ns.length ≤ 3 ∧ (∀ n ∈ ns, n < 2 ^ 600) ∧
  ∀ H', Same H H' → Q (.bl (msays b bs mv ns)) H'
section
variable {P : Program} {w : World} {K : PySem.W.Frag} {mg : Str → Option Value} {base : Heap}
theorem sc_says_yes : FnScope ["base", "machine", "numbers"] ["base", "machine", "numbers"] (defScope s_says_yes) := ⟨rfl, rfl, rfl, by decide +kernel, rfl, by decide +kernel, by decide +kernel⟩
theorem ok_says_yes {a : Adr} (T : Txt K mg a) : FnOk P w K mg base CX0 3 a.f_says_yes a.fd_says_yes ["base", "machine", "numbers"] (spSays K) := by
  have G_room_after : FnOk P w K mg base CX0 1 a.f_room_after a.fd_room_after ["moves", "room", "figures"] (spRoomM K) := ok_room_after T
  have G_letters_of : FnOk P w K mg base CX0 2 a.f_letters_of a.fd_letters_of ["base", "numbers"] (spLettersOf K) := ok_letters_of T
  refine T.F_says_yes.ok sc_says_yes (fun vs H Q E h => ?_) (fun cdv A outer s H vs Q E hr h => ?_)
  · obtain ⟨b, ma, na, nm, bs, mv, ns, rfl, _⟩ := h
    rfl
  · obtain ⟨b, ma, na, nm, bs, mv, ns, rfl, hb2, hb4, hma, mvs, h0, ena, ln, hns, k⟩ := h
    have hr_room_after : Room 1 _ := hr.mono (by decide)
    have hr_letters_of : Room 2 _ := hr
    refine ⟨_, (pss_one (ps_ret (pe_ix (ix_tupK K) (pe_ix (ix_tupK K) (pv 1) pe_int (fun _ _ => rfl)) (pe_call G_room_after hr_room_after rfl T.m_room_after T.k_room_after T.b_room_after .nil pass0 (pa_cons (pe_ix (ix_tupK K) (pv 1) pe_int (fun _ _ => rfl)) (pa_cons pe_int (pa_cons (pe_call G_letters_of hr_letters_of rfl T.m_letters_of T.k_letters_of T.b_letters_of .nil pass0 (pa_cons (pv 0) (pa_cons (pv 2) pa_nil))) pa_nil)))) (fun _ _ => rfl)))), ?_⟩
    obtain ⟨ya, va, ps, e1, e2, e3, tp⟩ := hma
    refine ⟨_, rfl, ma, _, _, _, rfl, rfl, .of e1, atI_nat (j := 1) rfl, _, rfl, ma, _, _, _, rfl, rfl, .of e1, atI_nat (j := 2) rfl, _, rfl, _, rfl, b, na, ns, rfl, hb2, by omega, .of ena, by omega, hns, fun D H1 hD s1 d1 => ?_⟩
    refine ⟨va, D, ps, b ^ ns.length, bs.length, 0, mv, ltrs b ns, rfl, s1 _ _ e3, tp.keep s1.kt, mvs, h0, .of d1, ltrs_lt (by omega) ns, ?_⟩
    have hg := goM_lt mvs (ltrs b ns) 0 h0 (ltrs_lt (by omega) ns)
    refine ⟨ya, _, _, .bl (msays b bs mv ns), rfl, rfl, .of (s1 _ _ e2), atI_nat ?_, k H1 s1⟩
    rw [List.getElem?_map, item_at false hg]
    rfl
end
theorem sum_pos : ∀ {ns : List Nat}, 0 < (castI ns).sum → ∃ n ∈ ns, 0 < n
  | [], h => by cases h
  | n :: ns, h => by
    have h' : 0 < (n : Int) + (castI ns).sum := h
    rcases Nat.eq_zero_or_pos n with z | z
    · subst z
      obtain ⟨m, hm, h0⟩ := sum_pos (ns := ns) (by omega)
      exact ⟨m, List.mem_cons_of_mem _ hm, h0⟩
    · exact ⟨n, List.mem_cons_self, z⟩
theorem sum_zero : ∀ {ns : List Nat}, ¬ 0 < (castI ns).sum → ∀ n ∈ ns, n = 0
  | [], _, n, hn => by cases hn
  | m :: ns, h, n, hn => by
    have nn : ∀ l : List Nat, 0 ≤ (castI l).sum := fun l => by
      induction l with
      | nil => exact Int.le_refl _
      | cons x l ih => show 0 ≤ (x : Int) + (castI l).sum; omega
    have h' : ¬ 0 < (m : Int) + (castI ns).sum := h
    have h1 := nn ns
    rcases List.mem_cons.mp hn with e | e
    · omega
    · exact sum_zero (ns := ns) (by omega) n e
theorem plc_le_of {b i : Nat} (hb : 2 ≤ b) {ns : List Nat} (h : ∀ n ∈ ns, n / b ^ i = 0) : plc b ns ≤ i := by
  by_cases e : ns = []
  · subst e; exact Nat.zero_le _
  · obtain ⟨n, hn, en⟩ := plc_has (b := b) e
    rw [← en]
    rcases Nat.lt_or_ge i (digs b n).length with z | z
    · have := (dig_in hb i n).mp z
      have := h n hn
      omega
    · exact z
section
variable {P : Program} {w : World} {K : PySem.W.Frag} {mg : Str → Option Value} {base : Heap}
theorem sc_l_says : FnScope ["_law_base", "_law_machine_here", "_law_numbers", "_law_room", "_law_left", "_law_letter", "_law_number"] ["_law_base", "_law_machine_here", "_law_numbers"] (defScope s_l_says) := ⟨rfl, rfl, rfl, by decide +kernel, rfl, by decide +kernel, by decide +kernel⟩
theorem ok_l_says {a : Adr} (T : Txt K mg a) : FnOk P w K mg base CX0 1 a.f_l_says a.fd_l_says ["_law_base", "_law_machine_here", "_law_numbers"] (spSays K) := by
  refine T.F_l_says.ok sc_l_says (fun vs H Q E h => ?_) (fun cdv A outer s H vs Q E hr h => ?_)
  · obtain ⟨b, ma, na, nm, bs, mv, ns, rfl, _⟩ := h
    rfl
  · obtain ⟨b, ma, na, nm, bs, mv, ns, rfl, hb2, hb4, hma, mvs, h0, ena, ln, hns, k⟩ := h
    refine ⟨_, (pss_cons (ps_set (i := 3) sc_l_says.nd rfl (Or.inl rfl) pe_int)
    (pss_cons (ps_set (i := 4) sc_l_says.nd rfl (Or.inl rfl) (pe_callTy (call_listK K) (by rfl) T.z_list bt_list (pa_cons (pv 2) pa_nil)))
    (pss_cons (ps_while PassesOwn.never (pt_cmpR op_gt (pe_callB (call_sumK K) (by rfl) T.z_sum bt_sum (pa_cons (pv 4) pa_nil)) pe_int (nomark _))
      (pss_cons (ps_set (i := 5) sc_l_says.nd rfl (Or.inl rfl) pe_int)
      (pss_cons (ps_for PassesOwn.never rfl (pi_list (pv 4)) (pg_name (i := 6) sc_l_says.nd rfl (Or.inl rfl))
        (pss_one (ps_set (i := 5) sc_l_says.nd rfl (Or.inl rfl) (pe_op op_add (pe_op op_mul (pv 5) (pv 0)) (pe_op op_modP (pv 6) (pv 0))))))
      (pss_cons (ps_set (i := 3) sc_l_says.nd rfl (Or.inl rfl) (pe_ix (ix_tupK K) (pe_ix (ix_tupK K) (pe_ix (ix_tupK K) (pv 1) pe_int (fun _ _ => rfl)) (pv 3) (fun _ _ => rfl)) (pv 5) (fun _ _ => rfl)))
      (pss_one (ps_setComp (i := 4) (CompScope.mk' (esc := defScope s_l_says) (N := ["_law_base", "_law_machine_here", "_law_numbers", "_law_room", "_law_left", "_law_letter", "_law_number"]) (own := ["_law_number"]) (frn := ["_law_base"]) (frj := [0]) rfl rfl (by decide +kernel)) rfl (pi_list (pv 4)) (fun _ _ _ _ => (pg_name (i := 0) (show List.Nodup (["_law_number", "_law_base"] : List Str) by decide +kernel) rfl (Or.inl rfl))) (fun _ _ _ _ => pifs_nil) (fun _ _ _ _ => (pe_op op_fdivB (pv 0) (pv 1))) sc_l_says.nd rfl rfl))))))
    (pss_one (ps_ret (pe_ix (ix_tupK K) (pe_ix (ix_tupK K) (pv 1) pe_int (fun _ _ => rfl)) (pv 3) (fun _ _ => rfl))))))), ?_⟩
    obtain ⟨ya, va, ps, e1, e2, e3, tp⟩ := hma
    have big : (10000 : Nat) ≤ sizeLine := by decide
    have hbp : ∀ i, 0 < b ^ i := fun i => Nat.pow_pos (by omega)
    dsimp only [tSeq, tAsg, tC, gName]
    refine ⟨_, rfl, na, _, rfl, .inr (.of ena), fun Z hZ => ?_⟩
    dsimp only [gName]
    refine while_m (fun m σ H' => ∃ (i : Nat) (Z : Addr) (v5 v6 : Option V), m = plc b ns - i ∧ i ≤ plc b ns ∧ σ = [some (.int (b : Nat)), some (.ref ma), some (.ref na), some (.int (go mv 0 ((List.range i).map (ltr b ns)) : Nat)), some (.ref Z), v5, v6] ∧ Same H H' ∧ H' Z = some (.lst ((castI (ns.map (· / b ^ i))).map V.int)))
      ⟨_, 0, Z, none, none, rfl, Nat.zero_le _, rfl, Same.new hZ, ?st⟩ ?_ ?_
    case st =>
      rw [upd_same]
      have : ns.map (· / b ^ 0) = ns := by
        rw [show (fun x : Nat => x / b ^ 0) = id from funext fun x => by rw [Nat.pow_zero, Nat.div_one]; rfl, List.map_id]
      rw [this]
    · rintro m σ H1 ⟨i, Z, v5, v6, rfl, hi, rfl, s1, z1⟩
      have hgo : ∀ f ∈ (List.range i).map (ltr b ns), f < b ^ ns.length := fun f hf => by
        obtain ⟨p, _, rfl⟩ := List.mem_map.mp hf
        exact ltr_lt (by omega) ns p
      have hg := goM_lt mvs _ 0 h0 hgo
      refine ⟨_, rfl, Z, _, rfl, .of z1, _, _, rfl, rfl, _, rfl, ?_⟩
      refine ite2 (fun z => ?_) (fun z => ?_)
      · obtain ⟨x, hx, x0⟩ := sum_pos (of_decide_eq_true z)
        obtain ⟨n, hn, rfl⟩ := List.mem_map.mp hx
        have hip : i < plc b ns := Nat.lt_of_lt_of_le ((dig_in hb2 i n).mpr x0) (plc_le hn)
        refine ⟨_, rfl, Z, rfl, ⟨_, .of z1⟩, for_list (xs := (castI (ns.map (· / b ^ i))).map V.int) (fun j σ H' => ∃ v6 : Option V, σ = [some (.int (b : Nat)), some (.ref ma), some (.ref na), some (.int (go mv 0 ((List.range i).map (ltr b ns)) : Nat)), some (.ref Z), some (.int (lst b 0 ((ns.take j).map fun n => n / b ^ i % b) : Nat)), v6] ∧ H' = H1)
          ⟨v6, rfl, rfl⟩ (fun j σ H' _ ⟨_, _, e⟩ => by rw [e]; exact .of z1) ?_ ?_⟩
        · rintro j x σ H2 hx ⟨v6, rfl, rfl⟩
          obtain ⟨q, rfl, eq⟩ := natItem hx
          rw [List.getElem?_map] at eq
          obtain ⟨n', en', rfl⟩ := Option.map_eq_some_iff.mp eq
          refine ⟨_, rfl, _, rfl, _, _, rfl, rfl, .inr (by constructor <;> omega), _, rfl, _, rfl, _, _, rfl, rfl, cpos (by omega), _, _, rfl, rfl, some (.int ((n' / b ^ i : Nat) : Int)), ?_, rfl⟩
          rw [take_snoc en', List.map_append, List.map_cons, List.map_nil, lst_snoc]
          have ee : ((lst b 0 ((ns.take j).map fun n => n / b ^ i % b) : Nat) : Int) * (b : Int) + ((n' / b ^ i : Nat) : Int) % (b : Int) = ((lst b 0 ((ns.take j).map fun n => n / b ^ i % b) * b + n' / b ^ i % b : Nat) : Int) := by
            rw [Int.natCast_add, Int.natCast_mul, Int.natCast_emod]
          rw [← ee]
          rfl
        rintro σ H2 ⟨v6, rfl, rfl⟩
        rw [List.length_map, castI_len, List.length_map, List.take_length]
        have el : lst b 0 (ns.map fun n => n / b ^ i % b) = ltr b ns i := rfl
        rw [el]
        obtain ⟨r1, r2, r3⟩ := mvs.row (tp.keep s1.kt) hg
        have hl : ltr b ns i < b ^ ns.length := ltr_lt (by omega) ns i
        refine ⟨_, rfl, ma, _, _, _, rfl, rfl, .of (s1 _ _ e1), atI_nat (j := 2) rfl, _, rfl, va, _, _, _, rfl, rfl, .of (s1 _ _ e3), atI_nat (by rw [List.getElem?_map, r1]; rfl), _, rfl, _, _, _, _, rfl, rfl, .of r2, atI_nat (castI_item (by rw [r3]; exact hl)), ?_⟩
        have eg : (mv.getD (go mv 0 ((List.range i).map (ltr b ns))) []).getD (ltr b ns i) 0 = go mv 0 ((List.range (i + 1)).map (ltr b ns)) := by
          rw [List.range_succ, List.map_append, List.map_cons, List.map_nil, go_app]
        rw [eg]
        dsimp only [gName]
        refine ⟨_, rfl, Z, rfl, ⟨_, .of z1⟩, fun C hC => ?_⟩
        refine comp_list (xs := (castI (ns.map (· / b ^ i))).map V.int) (fun j σ H' => ∃ v : Option V, σ = [v, some (.int (b : Nat))] ∧ Same H2 H' ∧ H' C = some (.lst ((castI ((ns.take j).map (· / b ^ (i + 1)))).map V.int)))
          ⟨none, ?sg, Same.new hC, upd_same⟩ (fun j σ H' _ ⟨_, _, s', _⟩ => .of (s' _ _ z1)) ?_ ?_
        case sg => rfl
        · rintro j x σ H3 hx ⟨v, rfl, s2, c2⟩
          obtain ⟨q, rfl, eq⟩ := natItem hx
          rw [List.getElem?_map] at eq
          obtain ⟨n', en', rfl⟩ := Option.map_eq_some_iff.mp eq
          have hj : j < ns.length := (List.getElem?_eq_some_iff.mp en').1
          refine ⟨_, rfl, _, rfl, _, _, rfl, rfl, ⟨by omega, log_small (by omega)⟩, _, c2, ?_, _, rfl, s2.kbn hC KB.write, ?_⟩
          · rw [List.length_map, castI_len, List.length_map, List.length_take]; omega
          · rw [upd_same, take_snoc en', List.map_append, List.map_cons, List.map_nil, castI_app, List.map_append]
            have ee : ((n' / b ^ i : Nat) : Int) / (b : Int) = ((n' / b ^ (i + 1) : Nat) : Int) := by
              rw [← Int.natCast_ediv, Nat.div_div_eq_div_mul, Nat.pow_succ]
            show some (HO.lst (_ ++ [V.int (((n' / b ^ i : Nat) : Int) / (b : Int))])) = _
            rw [ee]
            rfl
        rintro σ H3 ⟨v, rfl, s2, c2⟩
        rw [List.length_map, castI_len, List.length_map, List.take_length] at c2
        exact ⟨_, by omega, i + 1, C, _, _, rfl, hip, rfl, s1.trans s2, c2⟩
      · have hz := sum_zero (fun y => z (decide_eq_true y))
        have ei : i = plc b ns := Nat.le_antisymm hi (plc_le_of hb2 fun n hn => hz _ (List.mem_map.mpr ⟨n, hn, rfl⟩))
        subst ei
        refine ⟨_, rfl, ma, _, _, _, rfl, rfl, .of (s1 _ _ e1), atI_nat (j := 1) rfl, _, rfl, ya, _, _, .bl (msays b bs mv ns), rfl, rfl, .of (s1 _ _ e2), atI_nat ?_, k H1 s1⟩
        rw [List.getElem?_map, item_at false hg]
        rfl
    · rintro σ H Q Q' hQ ⟨v1, e1, a1, x1, e4, h6, i1, i2, e7, e8, b, e9, q⟩
      exact ⟨v1, e1, a1, x1, e4, h6, i1, i2, e7, e8, b, e9, hQ _ _ q⟩
end
end My
set_option Elab.async false
set_option linter.all false
set_option maxRecDepth 100000
set_option maxHeartbeats 4000000
namespace My
open PySem L2
theorem kit_bb {K : PySem.W.Frag} : PySem.W.kitOne K (.type "bool") (.type "bool") = some true := by rfl
theorem cutTakeV (xs : List V) (n : Nat) : cutV xs none (some (n : Int)) = xs.take n := by
  unfold cutV
  rw [show HT.sIx xs.length 0 none = 0 from rfl, HT.sIx_nat]
  simp
theorem lt600 {n : Nat} (h : n < 10 ^ 60) : n < 2 ^ 600 := Nat.lt_of_lt_of_le h (Nat.le_trans (show (10 ^ 60 : Nat) ≤ 2 ^ 200 by decide) (Nat.pow_le_pow_right (by decide) (by decide)))
def spLaw (K : PySem.W.Frag) : Sp := fun vs H Q _ => ∃ (a : Addr) (ns : List Int), vs = [.ref a] ∧ SqL K H a (ns.map V.int) ∧ ns.length ≤ 63 ∧ ∀ H', Q (.bl true) H'
section
variable {P : Program} {w : World} {K : PySem.W.Frag} {mg : Str → Option Value} {base : Heap}
theorem sc_law : FnScope ["_law_script", "_law_feed_here", "_law_names_here", "_law_base", "_law_machine_here", "_law_asked", "_law_turn", "_law_numbers", "_law_found"] ["_law_script"] (defScope s_law) := ⟨rfl, rfl, rfl, by decide +kernel, rfl, by decide +kernel, by decide +kernel⟩
theorem ok_law {a : Adr} (T : Txt K mg a) : FnOk P w K mg base CX0 4 a.f_law a.fd_law ["_law_script"] (spLaw K) := by
  have G_l_feed : FnOk P w K mg base CX0 1 a.f_l_feed a.fd_l_feed ["_law_script"] (spFeed K) := ok_l_feed T
  have G_l_draw : FnOk P w K mg base CX0 1 a.f_l_draw a.fd_l_draw ["_law_feed_here", "_law_many"] spDraw := ok_l_draw T
  have G_l_names : FnOk P w K mg base CX0 2 a.f_l_names a.fd_l_names ["_law_feed_here", "_law_many"] spNames := ok_l_names T
  have G_l_great : FnOk P w K mg base CX0 2 a.f_l_great a.fd_l_great ["_law_feed_here"] spGreat := ok_l_great T
  have G_l_machine : FnOk P w K mg base CX0 2 a.f_l_machine a.fd_l_machine ["_law_feed_here", "_law_base", "_law_names_here", "_law_most"] spMachine := ok_l_machine T
  have G_says_yes : FnOk P w K mg base CX0 3 a.f_says_yes a.fd_says_yes ["base", "machine", "numbers"] (spSays K) := ok_says_yes T
  have G_l_says : FnOk P w K mg base CX0 1 a.f_l_says a.fd_l_says ["_law_base", "_law_machine_here", "_law_numbers"] (spSays K) := ok_l_says T
  refine T.F_law.ok sc_law (fun vs H Q E h => ?_) (fun cdv A outer s H vs Q E hr h => ?_)
  · obtain ⟨sa, ns, rfl, _⟩ := h
    rfl
  · obtain ⟨sa, ns, rfl, hS, hns, k⟩ := h
    have hr_l_feed : Room 1 _ := hr.mono (by decide)
    have hr_l_draw : Room 1 _ := hr.mono (by decide)
    have hr_l_says : Room 1 _ := hr.mono (by decide)
    have hr_l_names : Room 2 _ := hr.mono (by decide)
    have hr_l_great : Room 2 _ := hr.mono (by decide)
    have hr_l_machine : Room 2 _ := hr.mono (by decide)
    have hr_says_yes : Room 3 _ := hr
    refine ⟨_, (pss_cons (ps_set (i := 1) sc_law.nd rfl (Or.inr rfl) (pe_call G_l_feed hr_l_feed rfl T.m_l_feed T.k_l_feed T.b_l_feed .nil pass0 (pa_cons (pv 0) pa_nil)))
    (pss_cons (ps_set (i := 2) sc_law.nd rfl (Or.inl rfl) (pe_call G_l_names hr_l_names rfl T.m_l_names T.k_l_names T.b_l_names .nil pass0 (pa_cons (pv 1) (pa_cons (pe_call G_l_draw hr_l_draw rfl T.m_l_draw T.k_l_draw T.b_l_draw .nil pass0 (pa_cons (pv 1) (pa_cons pe_int pa_nil))) pa_nil))))
    (pss_cons (ps_set (i := 3) sc_law.nd rfl (Or.inl rfl) (pe_op op_add pe_int (pe_call G_l_draw hr_l_draw rfl T.m_l_draw T.k_l_draw T.b_l_draw .nil pass0 (pa_cons (pv 1) (pa_cons (pe_ix (ix_listK K) (pe_lst (pa_cons pe_int (pa_cons pe_int pa_nil))) (pe_op op_fdivB (pe_callB (call_lenK K) (by rfl) T.z_len bt_len (pa_cons (pv 2) pa_nil)) pe_int) (fun _ _ => rfl)) pa_nil)))))
    (pss_cons (ps_set (i := 4) sc_law.nd rfl (Or.inl rfl) (pe_call G_l_machine hr_l_machine rfl T.m_l_machine T.k_l_machine T.b_l_machine .nil pass0 (pa_cons (pv 1) (pa_cons (pv 3) (pa_cons (pv 2) (pa_cons pe_int pa_nil))))))
    (pss_cons (ps_set (i := 5) sc_law.nd rfl (Or.inl rfl) (pe_lst (pa_cons (pe_callTy (call_tupleK K) (by rfl) T.z_tuple bt_tuple (pa_cons (pe_comp (CompScope.mk' (esc := defScope s_law) (N := ["_law_script", "_law_feed_here", "_law_names_here", "_law_base", "_law_machine_here", "_law_asked", "_law_turn", "_law_numbers", "_law_found"]) (own := ["_law_name"]) (frn := []) (frj := []) rfl rfl (by decide +kernel)) rfl (pi_tup (pv 2)) (fun _ _ _ _ => (pg_name (i := 0) (show List.Nodup (["_law_name"] : List Str) by decide +kernel) rfl (Or.inl rfl))) (fun _ _ _ _ => pifs_nil) (fun _ _ _ _ => pe_int)) pa_nil)) pa_nil)))
    (pss_cons (ps_for PassesOwn.never rfl (pi_range1 rfl T.z_range (pa_cons pe_int pa_nil)) (pg_name (i := 6) sc_law.nd rfl (Or.inl rfl))
      (pss_one (ps_expr (pe_bm PySem.F.plainAttrs_list PySem.F.slot_list_append PySem.F.type_list_append mt_append (pv 5) (pa_cons (pe_callTy (call_tupleK K) (by rfl) T.z_tuple bt_tuple (pa_cons (pe_comp (CompScope.mk' (esc := defScope s_law) (N := ["_law_script", "_law_feed_here", "_law_names_here", "_law_base", "_law_machine_here", "_law_asked", "_law_turn", "_law_numbers", "_law_found"]) (own := ["_law_name"]) (frn := ["_law_feed_here"]) (frj := [1]) rfl rfl (by decide +kernel)) rfl (pi_tup (pv 2)) (fun _ _ _ _ => (pg_name (i := 0) (show List.Nodup (["_law_name", "_law_feed_here"] : List Str) by decide +kernel) rfl (Or.inl rfl))) (fun _ _ _ _ => pifs_nil) (fun _ _ _ _ => (pe_call G_l_great hr_l_great rfl T.m_l_great T.k_l_great T.b_l_great .nil pass0 (pa_cons (pv 1) pa_nil)))) pa_nil)) pa_nil)))))
    (pss_cons (ps_for PassesOwn.never rfl (pi_list (pe_op op_cat (pv 5) (pe_slice (sl_listK K) (pv 5) po_none (po_some pe_int)))) (pg_name (i := 7) sc_law.nd rfl (Or.inl rfl))
      (pss_cons (ps_set (i := 8) sc_law.nd rfl (Or.inl rfl) (pe_call G_says_yes hr_says_yes rfl T.m_says_yes T.k_says_yes T.b_says_yes .nil pass0 (pa_cons (pv 3) (pa_cons (pv 4) (pa_cons (pv 7) pa_nil)))))
      (pss_one (ps_if (PW.pt (pw_or (pt_not (pt_truth (pe_callB (call_isiK K) (by rfl) T.z_isinstance bt_isinstance (pa_cons (pv 8) (pa_cons (pe_bltn (v := .ty "bool") rfl T.z_bool bt_bool rfl) pa_nil))) (fun _ => rfl))) (pw_or1 (pt_cmpR op_ne (pv 8) (pe_call G_l_says hr_l_says rfl T.m_l_says T.k_l_says T.b_l_says .nil pass0 (pa_cons (pv 3) (pa_cons (pv 4) (pa_cons (pv 7) pa_nil)))) (nomark _)))))
        (pss_one (ps_ret pe_bl))
        pss_nil))))
    (pss_one (ps_ret pe_bl))))))))), ?_⟩
    have p10 : (2 ^ 10 : Nat) < 2 ^ 1000 := Nat.pow_lt_pow_right (by decide) (by decide)
    have big : (10000 : Nat) ≤ sizeLine := by decide
    have small : ∀ x : Nat, x ≤ 1000 → x < 2 ^ 1000 := fun x hx => Nat.lt_trans (show x < 2 ^ 10 by omega) p10
    refine ⟨_, rfl, sa, ns, rfl, hS, hns, fun F L H1 hF hL s1 f1 => ?_⟩
    refine ⟨_, rfl, _, rfl, F, L, 4, rfl, f1, by decide, small _ (by decide), fun m H2 m1 k2 f2 => ⟨F, L, m, rfl, f2, by omega, fun nm ss H3 hnm k3 f3 enm lss _ _ => ?_⟩⟩
    obtain ⟨d, hd, hd0, hd3⟩ : ∃ d : Nat, atI ([.int 3, .int 1] : List V) ((ss.length : Int) / 3) = some (.int (d : Nat)) ∧ 0 < d ∧ d ≤ 3 := by
      have : (ss.length : Int) / 3 = 0 ∨ (ss.length : Int) / 3 = 1 := by omega
      rcases this with e | e
      · rw [e]; exact ⟨3, rfl, by decide, by decide⟩
      · rw [e]; exact ⟨1, rfl, by decide, by decide⟩
    refine ⟨_, rfl, by show 2 ≤ sizeLine; decide, fun Z hZ => ?_⟩
    have sZ := Same.new (o := .lst [.int 3, .int 1]) hZ
    refine ⟨_, rfl, _, ss.length, rfl, .inr ⟨_, .of (sZ _ _ enm), by rw [List.length_map]⟩, _, _, rfl, rfl, ⟨by decide, by decide⟩, Z, _, _, _, rfl, rfl, .of upd_same, hd, F, L, d, rfl, f3.same sZ, hd0, small _ (by omega), fun r H4 r1 k4 f4 => ⟨_, _, rfl, rfl, ?_⟩⟩
    have eb : (2 : Int) + (r : Int) = ((2 + r : Nat) : Int) := by omega
    dsimp only [gName]
    rw [eb]
    generalize hbb : 2 + r = b
    have hb2 : 2 ≤ b := by omega
    have hb4 : b ≤ 4 := by omega
    have enm4 := (f3.same sZ).ktu k4 _ _ (sZ _ _ enm)
    refine ⟨_, rfl, _, rfl, _, rfl, F, L, nm, b, 12, ss, rfl, f4, hb2, hb4, enm4, by omega, by decide, by decide, fun ma bs mv H5 hma k5 f5 em mvs h0 hb12 => ?_⟩
    have enm5 := f4.ktu k5 _ _ enm4
    dsimp only [gName]
    refine ⟨_, rfl, nm, rfl, ⟨_, .of enm5⟩, fun C hC => ?_⟩
    refine comp_tup (xs := ss.map V.str) (fun j σ H' => ∃ v : Option V, σ = [v] ∧ Same H5 H' ∧ H' C = some (.lst ((castI (List.replicate j 0)).map V.int)))
      ⟨none, ?sg, Same.new hC, upd_same⟩ (fun j σ H' _ ⟨_, _, s', _⟩ => .of (s' _ _ enm5)) ?_ ?_
    case sg => rfl
    · rintro j x σ H6 hx ⟨v, rfl, s6, c6⟩
      have hj : j < ss.length := by have := (List.getElem?_eq_some_iff.mp hx).1; rwa [List.length_map] at this
      refine ⟨_, c6, ?_, _, rfl, s6.kbn hC KB.write, ?_⟩
      · rw [List.length_map, castI_len, List.length_replicate]; omega
      · rw [upd_same, List.replicate_succ', castI_app, List.map_append]; rfl
    rintro σ H6 ⟨v, rfl, s6, c6⟩
    rw [List.length_map] at c6
    refine ⟨C, _, rfl, .inl ⟨.of c6, fun D hD => ?_⟩⟩
    have sD := Same.new (o := .tup ((castI (List.replicate ss.length 0)).map V.int)) hD
    refine ⟨by show 1 ≤ sizeLine; decide, fun A' hA => ?_⟩
    have sA := Same.new (o := .lst [.ref D]) hA
    have s56 := (s6.trans sD).trans sA
    have f6 := f5.same s56
    have em6 := em.keep s56.kt
    have enm6 := s56 _ _ enm5
    have nA : A' ≠ F ∧ A' ≠ L := Feed.neF (f5.same (s6.trans sD)) hA
    have d6 := sA _ _ (show (upd H6 D (.tup ((castI (List.replicate ss.length 0)).map V.int))) D = _ from upd_same)
    have a6 : (upd (upd H6 D (.tup ((castI (List.replicate ss.length 0)).map V.int))) A' (.lst [.ref D])) A' = _ := upd_same
    generalize upd (upd H6 D (.tup ((castI (List.replicate ss.length 0)).map V.int))) A' (.lst [.ref D]) = H7 at f6 em6 enm6 d6 a6
    dsimp only [gName]
    refine ⟨_, rfl, by decide, by decide, for_range (n := (6 : Int).toNat) (fun i σ H' => ∃ (ps : List Addr) (nss : List (List Nat)) (v6 : Option V), σ = [some (.ref sa), some (.ref F), some (.ref nm), some (.int (b : Nat)), some (.ref ma), some (.ref A'), v6, none, none] ∧ Feed H' F L ∧ MachAt H' ma nm bs mv ∧ H' nm = some (.tup (ss.map V.str)) ∧ H' A' = some (.lst (ps.map V.ref)) ∧ Tups H' ps (nss.map castI) ∧ nss.length = i + 1 ∧ ∀ l ∈ nss, l.length = ss.length ∧ ∀ n ∈ l, n < 2 ^ 600)
      ⟨[D], [List.replicate ss.length 0], none, rfl, f6, em6, enm6, a6, .cons d6 .nil, rfl, fun l hl => ?zz⟩ ?_ ?_⟩
    case zz =>
      rw [List.mem_singleton.mp hl]
      exact ⟨List.length_replicate, fun n hn => by rw [(List.mem_replicate.mp hn).2]; exact Nat.pow_pos (by decide)⟩
    · rintro i σ H8 hi ⟨ps, nss, v6, rfl, f8, em8, enm8, a8, tp8, ln8, ok8⟩
      have hi' : i < 6 := hi
      refine ⟨_, rfl, .inl ⟨rfl, _, .of a8⟩, _, rfl, nm, rfl, ⟨_, .of enm8⟩, fun C' hC' => ?_⟩
      have nC := f8.neF hC'
      refine comp_tup (xs := ss.map V.str) (fun j σ H' => ∃ (rs : List Nat) (v : Option V), σ = [v, some (.ref F)] ∧ KB2 F L H8 H' ∧ Feed H' F L ∧ H' C' = some (.lst ((castI rs).map V.int)) ∧ rs.length = j ∧ ∀ n ∈ rs, n < 2 ^ 600)
        ⟨[], none, ?sg3, (Same.new hC').kb2, f8.same (Same.new hC'), upd_same, rfl, fun n hn => (by cases hn)⟩ (fun j σ H' _ ⟨_, _, _, k', _⟩ => .of (f8.ktu k' _ _ enm8)) ?_ ?_
      case sg3 => rfl
      · rintro j x σ H9 hx ⟨rs, v, rfl, k9, f9, c9, lr, hrs⟩
        have hj : j < ss.length := by have := (List.getElem?_eq_some_iff.mp hx).1; rwa [List.length_map] at this
        refine ⟨_, rfl, F, L, rfl, f9, fun q Hx q1 kx fx => ?_⟩
        refine ⟨_, kx _ _ c9 nC.1 nC.2, ?_, rs ++ [q], _, rfl, KB2.updN (k9.trans kx) hC', fx.upd nC, ?_, by rw [List.length_append, lr]; rfl, fun n hn => ?_⟩
        · rw [List.length_map, castI_len]; omega
        · rw [upd_same, castI_app, List.map_append]; rfl
        · rcases List.mem_append.mp hn with z | z
          · exact hrs n z
          · rw [List.mem_singleton.mp z]; exact lt600 q1
      rintro σ H9 ⟨rs, v, rfl, k9, f9, c9, lr, hrs⟩
      rw [List.length_map] at lr
      refine ⟨C', _, rfl, .inl ⟨.of c9, fun D' hD' => ?_⟩⟩
      have sD' := Same.new (o := .tup ((castI rs).map V.int)) hD'
      have a9 := sD' _ _ (k9 _ _ a8 nA.1 nA.2)
      have kt := (f8.ktu k9).trans sD'.kt
      have lps : ps.length = i + 1 := by rw [Paired.length tp8, List.length_map, ln8]
      have ktA : KTu (upd H9 D' (.tup ((castI rs).map V.int))) (upd (upd H9 D' (.tup ((castI rs).map V.int))) A' (.lst (ps.map V.ref ++ [.ref D']))) := KTu.lst a9
      refine ⟨A', _, _, rfl, rfl, a9, ?_, ps ++ [D'], nss ++ [rs], _, rfl, (f9.same sD').upd nA, (em8.keep kt).keep ktA, ktA _ _ (kt _ _ enm8), ?_, ?_, by rw [List.length_append, ln8]; rfl, fun l hl => ?_⟩
      · rw [List.length_map]; omega
      · rw [upd_same, List.map_append]; rfl
      · rw [List.map_append]
        exact paired_append ((tp8.keep kt).keep ktA) (.cons (ktA _ _ upd_same) .nil)
      · rcases List.mem_append.mp hl with z | z
        · exact ok8 l z
        · rw [List.mem_singleton.mp z]; exact ⟨lr, hrs⟩
    rintro σ H8 ⟨ps, nss, v6, rfl, f8, em8, enm8, a8, tp8, ln8, ok8⟩
    have ln8' : nss.length = 7 := ln8
    have lps : ps.length = 7 := by rw [Paired.length tp8, List.length_map, ln8']
    dsimp only [gName]
    refine ⟨_, rfl, _, rfl, _, rfl, A', _, rfl, .of a8, fun S hS' => ?_⟩
    have ecut : cutV (ps.map V.ref) none (some (2 : Int)) = (ps.take 2).map V.ref := by rw [show (some (2 : Int)) = some ((2 : Nat) : Int) from rfl, cutTakeV, List.map_take]
    rw [ecut]
    have sS := Same.new (o := .lst ((ps.take 2).map V.ref)) hS'
    refine ⟨A', S, _, _, rfl, rfl, sS _ _ a8, upd_same, ?cl, fun B hB => ?_⟩
    case cl => rw [List.length_map, List.length_map, List.length_take]; omega
    have sB := Same.new (o := .lst (ps.map V.ref ++ (ps.take 2).map V.ref)) hB
    have s8B := sS.trans sB
    have tpB := tp8.keep s8B.kt
    have emB := em8.keep s8B.kt
    refine ⟨B, rfl, ⟨_, .of upd_same⟩, for_list (xs := ps.map V.ref ++ (ps.take 2).map V.ref) (fun i σ H' => ∃ v7 v8 : Option V, σ = [some (.ref sa), some (.ref F), some (.ref nm), some (.int (b : Nat)), some (.ref ma), some (.ref A'), v6, v7, v8] ∧ Same (upd (upd H8 S (.lst ((ps.take 2).map V.ref))) B (.lst (ps.map V.ref ++ (ps.take 2).map V.ref))) H')
      ⟨none, none, rfl, .refl _⟩ (fun i σ H' _ ⟨_, _, _, s'⟩ => .of (s' _ _ upd_same)) ?_ ?_⟩
    · rintro i x σ H9 hx ⟨v7, v8, rfl, s9⟩
      have hx' : x ∈ (ps ++ ps.take 2).map V.ref := by rw [List.map_append]; exact List.mem_of_getElem? hx
      obtain ⟨p, hp, rfl⟩ := List.mem_map.mp hx'
      have hp' : p ∈ ps := by
        rcases List.mem_append.mp hp with z | z
        · exact z
        · exact List.mem_of_mem_take z
      obtain ⟨j, hj⟩ := List.getElem?_of_mem hp'
      obtain ⟨l, el, ep⟩ := Tups.get (tpB.keep s9.kt) hj
      rw [List.getElem?_map] at el
      obtain ⟨qs, eqs, rfl⟩ := Option.map_eq_some_iff.mp el
      obtain ⟨lq, hq⟩ := ok8 qs (List.mem_of_getElem? eqs)
      have mvs' : Moves bs.length (b ^ qs.length) mv := by rw [lq]; exact mvs
      refine ⟨_, rfl, _, rfl, _, rfl, b, ma, p, nm, bs, mv, qs, rfl, hb2, hb4, emB.keep s9.kt, mvs', h0, ep, by omega, hq, fun Hx sx => ?_⟩
      refine ⟨_, rfl, V.bl (msays b bs mv qs), _, "bool", true, rfl, TyOf.bl _, kit_bb, true, rfl, iteF ?_⟩
      refine ⟨_, rfl, _, rfl, _, rfl, _, rfl, b, ma, p, nm, bs, mv, qs, rfl, hb2, hb4, (emB.keep s9.kt).keep sx.kt, mvs', h0, sx _ _ ep, by omega, hq, fun Hy sy => ⟨rfl, _, rfl, ?_⟩⟩
      refine ite2 (fun z => ?_) (fun _ => ⟨_, _, rfl, s9.trans (sx.trans sy)⟩)
      simp at z
    · rintro σ H9 ⟨v7, v8, rfl, s9⟩
      exact k H9
end
end My
set_option Elab.async false
set_option linter.all false
set_option maxRecDepth 100000
set_option maxHeartbeats 4000000
namespace My
open PySem L2
theorem all_mk {l : PySem.W.OpenLaw} {w : World} {K : PySem.W.Frag} {h : Heap} {mg : Str → Option Value} {fa : Addr} (X : K.In h) (G : h.Ns mainGlobals mg) (hfa : mg "law" = some (.ref fa))
    {f0 : Addr} {od0 an0 : Option Addr} {sl0 : Array (Option Value)} {oc0 kV0 dc0 pm0 cd0 ct0 : Value}
    {f1 : Addr} {od1 an1 : Option Addr} {sl1 : Array (Option Value)} {oc1 kV1 dc1 pm1 cd1 ct1 : Value}
    {f2 : Addr} {od2 an2 : Option Addr} {sl2 : Array (Option Value)} {oc2 kV2 dc2 pm2 cd2 ct2 : Value}
    {f3 : Addr} {od3 an3 : Option Addr} {sl3 : Array (Option Value)} {oc3 kV3 dc3 pm3 cd3 ct3 : Value}
    {f4 : Addr} {od4 an4 : Option Addr} {sl4 : Array (Option Value)} {oc4 kV4 dc4 pm4 cd4 ct4 : Value}
    {f5 : Addr} {od5 an5 : Option Addr} {sl5 : Array (Option Value)} {oc5 kV5 dc5 pm5 cd5 ct5 : Value}
    {f6 : Addr} {od6 an6 : Option Addr} {sl6 : Array (Option Value)} {oc6 kV6 dc6 pm6 cd6 ct6 : Value}
    {f7 : Addr} {od7 an7 : Option Addr} {sl7 : Array (Option Value)} {oc7 kV7 dc7 pm7 cd7 ct7 : Value}
    {f8 : Addr} {od8 an8 : Option Addr} {sl8 : Array (Option Value)} {oc8 kV8 dc8 pm8 cd8 ct8 : Value}
    {f9 : Addr} {od9 an9 : Option Addr} {sl9 : Array (Option Value)} {oc9 kV9 dc9 pm9 cd9 ct9 : Value}
    {f10 : Addr} {od10 an10 : Option Addr} {sl10 : Array (Option Value)} {oc10 kV10 dc10 pm10 cd10 ct10 : Value}
    {f11 : Addr} {od11 an11 : Option Addr} {sl11 : Array (Option Value)} {oc11 kV11 dc11 pm11 cd11 ct11 : Value}
    {f12 : Addr} {od12 an12 : Option Addr} {sl12 : Array (Option Value)} {oc12 kV12 dc12 pm12 cd12 ct12 : Value}
    {f13 : Addr} {od13 an13 : Option Addr} {sl13 : Array (Option Value)} {oc13 kV13 dc13 pm13 cd13 ct13 : Value}
    (a0 : PySem.W.nsIn K mainGlobals "figures_of" = some (some (.ref f0))) (l0 : K.lookup f0 = some ⟨oc0, od0, .func (PySem.W.fnOf "figures_of" "figures_of" (defArgs s_figures_of) (defBody s_figures_of) (defScope s_figures_of) .none kV0 dc0 pm0 an0 cd0 ct0), sl0⟩) (c0 : PySem.W.codeIn K cd0 "figures_of" = true) (k0 : PySem.W.keepIn K (.ref f0) = true)
    (a1 : PySem.W.nsIn K mainGlobals "letter_at" = some (some (.ref f1))) (l1 : K.lookup f1 = some ⟨oc1, od1, .func (PySem.W.fnOf "letter_at" "letter_at" (defArgs s_letter_at) (defBody s_letter_at) (defScope s_letter_at) .none kV1 dc1 pm1 an1 cd1 ct1), sl1⟩) (c1 : PySem.W.codeIn K cd1 "letter_at" = true) (k1 : PySem.W.keepIn K (.ref f1) = true)
    (a2 : PySem.W.nsIn K mainGlobals "letters_of" = some (some (.ref f2))) (l2 : K.lookup f2 = some ⟨oc2, od2, .func (PySem.W.fnOf "letters_of" "letters_of" (defArgs s_letters_of) (defBody s_letters_of) (defScope s_letters_of) .none kV2 dc2 pm2 an2 cd2 ct2), sl2⟩) (c2 : PySem.W.codeIn K cd2 "letters_of" = true) (k2 : PySem.W.keepIn K (.ref f2) = true)
    (a3 : PySem.W.nsIn K mainGlobals "room_after" = some (some (.ref f3))) (l3 : K.lookup f3 = some ⟨oc3, od3, .func (PySem.W.fnOf "room_after" "room_after" (defArgs s_room_after) (defBody s_room_after) (defScope s_room_after) .none kV3 dc3 pm3 an3 cd3 ct3), sl3⟩) (c3 : PySem.W.codeIn K cd3 "room_after" = true) (k3 : PySem.W.keepIn K (.ref f3) = true)
    (a4 : PySem.W.nsIn K mainGlobals "says_yes" = some (some (.ref f4))) (l4 : K.lookup f4 = some ⟨oc4, od4, .func (PySem.W.fnOf "says_yes" "says_yes" (defArgs s_says_yes) (defBody s_says_yes) (defScope s_says_yes) .none kV4 dc4 pm4 an4 cd4 ct4), sl4⟩) (c4 : PySem.W.codeIn K cd4 "says_yes" = true) (k4 : PySem.W.keepIn K (.ref f4) = true)
    (a5 : PySem.W.nsIn K mainGlobals "_law_feed" = some (some (.ref f5))) (l5 : K.lookup f5 = some ⟨oc5, od5, .func (PySem.W.fnOf "_law_feed" "_law_feed" (defArgs s_l_feed) (defBody s_l_feed) (defScope s_l_feed) .none kV5 dc5 pm5 an5 cd5 ct5), sl5⟩) (c5 : PySem.W.codeIn K cd5 "_law_feed" = true) (k5 : PySem.W.keepIn K (.ref f5) = true)
    (a6 : PySem.W.nsIn K mainGlobals "_law_draw" = some (some (.ref f6))) (l6 : K.lookup f6 = some ⟨oc6, od6, .func (PySem.W.fnOf "_law_draw" "_law_draw" (defArgs s_l_draw) (defBody s_l_draw) (defScope s_l_draw) .none kV6 dc6 pm6 an6 cd6 ct6), sl6⟩) (c6 : PySem.W.codeIn K cd6 "_law_draw" = true) (k6 : PySem.W.keepIn K (.ref f6) = true)
    (a7 : PySem.W.nsIn K mainGlobals "_law_after" = some (some (.ref f7))) (l7 : K.lookup f7 = some ⟨oc7, od7, .func (PySem.W.fnOf "_law_after" "_law_after" (defArgs s_l_after) (defBody s_l_after) (defScope s_l_after) .none kV7 dc7 pm7 an7 cd7 ct7), sl7⟩) (c7 : PySem.W.codeIn K cd7 "_law_after" = true) (k7 : PySem.W.keepIn K (.ref f7) = true)
    (a8 : PySem.W.nsIn K mainGlobals "_law_names" = some (some (.ref f8))) (l8 : K.lookup f8 = some ⟨oc8, od8, .func (PySem.W.fnOf "_law_names" "_law_names" (defArgs s_l_names) (defBody s_l_names) (defScope s_l_names) .none kV8 dc8 pm8 an8 cd8 ct8), sl8⟩) (c8 : PySem.W.codeIn K cd8 "_law_names" = true) (k8 : PySem.W.keepIn K (.ref f8) = true)
    (a9 : PySem.W.nsIn K mainGlobals "_law_great" = some (some (.ref f9))) (l9 : K.lookup f9 = some ⟨oc9, od9, .func (PySem.W.fnOf "_law_great" "_law_great" (defArgs s_l_great) (defBody s_l_great) (defScope s_l_great) .none kV9 dc9 pm9 an9 cd9 ct9), sl9⟩) (c9 : PySem.W.codeIn K cd9 "_law_great" = true) (k9 : PySem.W.keepIn K (.ref f9) = true)
    (a10 : PySem.W.nsIn K mainGlobals "_law_rings" = some (some (.ref f10))) (l10 : K.lookup f10 = some ⟨oc10, od10, .func (PySem.W.fnOf "_law_rings" "_law_rings" (defArgs s_l_rings) (defBody s_l_rings) (defScope s_l_rings) .none kV10 dc10 pm10 an10 cd10 ct10), sl10⟩) (c10 : PySem.W.codeIn K cd10 "_law_rings" = true) (k10 : PySem.W.keepIn K (.ref f10) = true)
    (a11 : PySem.W.nsIn K mainGlobals "_law_machine" = some (some (.ref f11))) (l11 : K.lookup f11 = some ⟨oc11, od11, .func (PySem.W.fnOf "_law_machine" "_law_machine" (defArgs s_l_machine) (defBody s_l_machine) (defScope s_l_machine) .none kV11 dc11 pm11 an11 cd11 ct11), sl11⟩) (c11 : PySem.W.codeIn K cd11 "_law_machine" = true) (k11 : PySem.W.keepIn K (.ref f11) = true)
    (a12 : PySem.W.nsIn K mainGlobals "_law_says" = some (some (.ref f12))) (l12 : K.lookup f12 = some ⟨oc12, od12, .func (PySem.W.fnOf "_law_says" "_law_says" (defArgs s_l_says) (defBody s_l_says) (defScope s_l_says) .none kV12 dc12 pm12 an12 cd12 ct12), sl12⟩) (c12 : PySem.W.codeIn K cd12 "_law_says" = true) (k12 : PySem.W.keepIn K (.ref f12) = true)
    (a13 : PySem.W.nsIn K mainGlobals "law" = some (some (.ref f13))) (l13 : K.lookup f13 = some ⟨oc13, od13, .func (PySem.W.fnOf "law" "law" (defArgs s_law) (defBody s_law) (defScope s_law) .none kV13 dc13 pm13 an13 cd13 ct13), sl13⟩) (c13 : PySem.W.codeIn K cd13 "law" = true) (k13 : PySem.W.keepIn K (.ref f13) = true)
    (z0 : PySem.W.nsIn K mainGlobals "max" = some none)
    (z1 : PySem.W.nsIn K mainGlobals "range" = some none)
    (z2 : PySem.W.nsIn K mainGlobals "tuple" = some none)
    (z3 : PySem.W.nsIn K mainGlobals "list" = some none)
    (z4 : PySem.W.nsIn K mainGlobals "abs" = some none)
    (z5 : PySem.W.nsIn K mainGlobals "sorted" = some none)
    (z6 : PySem.W.nsIn K mainGlobals "len" = some none)
    (z7 : PySem.W.nsIn K mainGlobals "sum" = some none)
    (z8 : PySem.W.nsIn K mainGlobals "min" = some none)
    (z9 : PySem.W.nsIn K mainGlobals "isinstance" = some none)
    (z10 : PySem.W.nsIn K mainGlobals "bool" = some none)
    : ∃ fd : FuncData, (∀ (s : Shared) (v : Value), BindsTo s fd ⟨[v], []⟩ [("_law_script", v)]) ∧ ∀ base : Heap, K.In base → base.Ns mainGlobals mg → FnOk l.prog w K mg base CX0 4 fa fd ["_law_script"] (spLaw K) := by
  have e := hfa.symm.trans (PySem.W.mg_of X G a13)
  cases e
  have F0 := fun_mk (st := s_figures_of) l0 c0 k0
  have b0 := F0.binds (ps := ["base", "number"]) fun _ _ _ _ _ _ us hl => match us, hl with | [_, _], _ => rfl
  have F1 := fun_mk (st := s_letter_at) l1 c1 k1
  have b1 := F1.binds (ps := ["base", "rows", "place"]) fun _ _ _ _ _ _ us hl => match us, hl with | [_, _, _], _ => rfl
  have F2 := fun_mk (st := s_letters_of) l2 c2 k2
  have b2 := F2.binds (ps := ["base", "numbers"]) fun _ _ _ _ _ _ us hl => match us, hl with | [_, _], _ => rfl
  have F3 := fun_mk (st := s_room_after) l3 c3 k3
  have b3 := F3.binds (ps := ["moves", "room", "figures"]) fun _ _ _ _ _ _ us hl => match us, hl with | [_, _, _], _ => rfl
  have F4 := fun_mk (st := s_says_yes) l4 c4 k4
  have b4 := F4.binds (ps := ["base", "machine", "numbers"]) fun _ _ _ _ _ _ us hl => match us, hl with | [_, _, _], _ => rfl
  have F5 := fun_mk (st := s_l_feed) l5 c5 k5
  have b5 := F5.binds (ps := ["_law_script"]) fun _ _ _ _ _ _ us hl => match us, hl with | [_], _ => rfl
  have F6 := fun_mk (st := s_l_draw) l6 c6 k6
  have b6 := F6.binds (ps := ["_law_feed_here", "_law_many"]) fun _ _ _ _ _ _ us hl => match us, hl with | [_, _], _ => rfl
  have F7 := fun_mk (st := s_l_after) l7 c7 k7
  have b7 := F7.binds (ps := ["_law_word"]) fun _ _ _ _ _ _ us hl => match us, hl with | [_], _ => rfl
  have F8 := fun_mk (st := s_l_names) l8 c8 k8
  have b8 := F8.binds (ps := ["_law_feed_here", "_law_many"]) fun _ _ _ _ _ _ us hl => match us, hl with | [_, _], _ => rfl
  have F9 := fun_mk (st := s_l_great) l9 c9 k9
  have b9 := F9.binds (ps := ["_law_feed_here"]) fun _ _ _ _ _ _ us hl => match us, hl with | [_], _ => rfl
  have F10 := fun_mk (st := s_l_rings) l10 c10 k10
  have b10 := F10.binds (ps := ["_law_moves"]) fun _ _ _ _ _ _ us hl => match us, hl with | [_], _ => rfl
  have F11 := fun_mk (st := s_l_machine) l11 c11 k11
  have b11 := F11.binds (ps := ["_law_feed_here", "_law_base", "_law_names_here", "_law_most"]) fun _ _ _ _ _ _ us hl => match us, hl with | [_, _, _, _], _ => rfl
  have F12 := fun_mk (st := s_l_says) l12 c12 k12
  have b12 := F12.binds (ps := ["_law_base", "_law_machine_here", "_law_numbers"]) fun _ _ _ _ _ _ us hl => match us, hl with | [_, _, _], _ => rfl
  have F13 := fun_mk (st := s_law) l13 c13 k13
  have T : Txt K mg ⟨f0, _, f1, _, f2, _, f3, _, f4, _, f5, _, f6, _, f7, _, f8, _, f9, _, f10, _, f11, _, f12, _, fa, _⟩ := ⟨F0, PySem.W.mg_of X G a0, k0, b0, F1, PySem.W.mg_of X G a1, k1, b1, F2, PySem.W.mg_of X G a2, k2, b2, F3, PySem.W.mg_of X G a3, k3, b3, F4, PySem.W.mg_of X G a4, k4, b4, F5, PySem.W.mg_of X G a5, k5, b5, F6, PySem.W.mg_of X G a6, k6, b6, F7, PySem.W.mg_of X G a7, k7, b7, F8, PySem.W.mg_of X G a8, k8, b8, F9, PySem.W.mg_of X G a9, k9, b9, F10, PySem.W.mg_of X G a10, k10, b10, F11, PySem.W.mg_of X G a11, k11, b11, F12, PySem.W.mg_of X G a12, k12, b12, F13, PySem.W.mg_of X G a13, PySem.W.mg_none_of X G z0, PySem.W.mg_none_of X G z1, PySem.W.mg_none_of X G z2, PySem.W.mg_none_of X G z3, PySem.W.mg_none_of X G z4, PySem.W.mg_none_of X G z5, PySem.W.mg_none_of X G z6, PySem.W.mg_none_of X G z7, PySem.W.mg_none_of X G z8, PySem.W.mg_none_of X G z9, PySem.W.mg_none_of X G z10⟩
  exact ⟨PySem.W.fnOf "law" "law" (defArgs s_law) (defBody s_law) (defScope s_law) .none kV13 dc13 pm13 an13 cd13 ct13, fun s v => .of_eq rfl, fun base _ _ => ok_law T⟩
theorem walk {l : PySem.W.OpenLaw} {q : Program} {loose : List Str} {XP : (Str → Option Value) → Heap → Prop} {YP : World → Heap → Prop} {d : DefRec} {K : Params → PySem.W.Frag} (hn : l.most = some 63) (hdf : d.params.defaults = [])
    (hY : ∀ (w : World) (h : Heap), YP w h → (K w.params).In h)
    (F : ∀ (w : World) (mg : Str → Option Value) (fa : Addr) (h : Heap), (K w.params).In h → h.Ns mainGlobals mg → mg d.name = some (.ref fa) →
      ∃ fd : FuncData, (∀ (s : Shared) (u : Value), BindsTo s fd ⟨[u], []⟩ [("_law_script", u)]) ∧ ∀ base : Heap, (K w.params).In base → base.Ns mainGlobals mg → FnOk l.prog w (K w.params) mg base CX0 4 fa fd ["_law_script"] (spLaw (K w.params))) :
    PySem.W.WalkO q loose XP YP l.row.toRowW d [] (fun f vs => PySem.call f vs) :=
  L2.walk_of (n := 63) (k := 4) (x := "_law_script") (CX := fun _ => CX0) (sp := fun w => spLaw (K w.params)) hn (by decide) hdf ⟨rfl, by decide, by decide, rfl⟩ hY F (fun _ _ a ns hl _ hS => ⟨a, ns, rfl, hS, hl, fun _ => rfl⟩) fun _ _ _ _ _ z => z
end My
open PySem PySem.W PyProof.Rows
set_option maxRecDepth 100000 in
set_option maxHeartbeats 0 in
theorem PySem.Challenge.cw_figurejudge_k32_what_machines_say_holds : PySem.Challenge.rw_figurejudge_k32_what_machines_say.Holds := by
  w_on; o_law; k_head; (case hw => w_witness2)
  k_fill
  refine My.walk (l := PySem.Challenge.rw_figurejudge_k32_what_machines_say) rfl rfl (fun w h Y => PySem.W.kIn_of Y) ?F
  case F =>
    intro w mg fa h KX G hmg
    refine' My.all_mk KX G hmg ?a0 ?l0 ?c0 ?k0 ?a1 ?l1 ?c1 ?k1 ?a2 ?l2 ?c2 ?k2 ?a3 ?l3 ?c3 ?k3 ?a4 ?l4 ?c4 ?k4 ?a5 ?l5 ?c5 ?k5 ?a6 ?l6 ?c6 ?k6 ?a7 ?l7 ?c7 ?k7 ?a8 ?l8 ?c8 ?k8 ?a9 ?l9 ?c9 ?k9 ?a10 ?l10 ?c10 ?k10 ?a11 ?l11 ?c11 ?k11 ?a12 ?l12 ?c12 ?k12 ?a13 ?l13 ?c13 ?k13 ?z0 ?z1 ?z2 ?z3 ?z4 ?z5 ?z6 ?z7 ?z8 ?z9 ?z10
    (case a0 => k_is)
    (case l0 => k_is)
    (case c0 => k_is)
    (case k0 => k_is)
    (case a1 => k_is)
    (case l1 => k_is)
    (case c1 => k_is)
    (case k1 => k_is)
    (case a2 => k_is)
    (case l2 => k_is)
    (case c2 => k_is)
    (case k2 => k_is)
    (case a3 => k_is)
    (case l3 => k_is)
    (case c3 => k_is)
    (case k3 => k_is)
    (case a4 => k_is)
    (case l4 => k_is)
    (case c4 => k_is)
    (case k4 => k_is)
    (case a5 => k_is)
    (case l5 => k_is)
    (case c5 => k_is)
    (case k5 => k_is)
    (case a6 => k_is)
    (case l6 => k_is)
    (case c6 => k_is)
    (case k6 => k_is)
    (case a7 => k_is)
    (case l7 => k_is)
    (case c7 => k_is)
    (case k7 => k_is)
    (case a8 => k_is)
    (case l8 => k_is)
    (case c8 => k_is)
    (case k8 => k_is)
    (case a9 => k_is)
    (case l9 => k_is)
    (case c9 => k_is)
    (case k9 => k_is)
    (case a10 => k_is)
    (case l10 => k_is)
    (case c10 => k_is)
    (case k10 => k_is)
    (case a11 => k_is)
    (case l11 => k_is)
    (case c11 => k_is)
    (case k11 => k_is)
    (case a12 => k_is)
    (case l12 => k_is)
    (case c12 => k_is)
    (case k12 => k_is)
    (case a13 => k_is)
    (case l13 => k_is)
    (case c13 => k_is)
    (case k13 => k_is)
    (case z0 => k_is)
    (case z1 => k_is)
    (case z2 => k_is)
    (case z3 => k_is)
    (case z4 => k_is)
    (case z5 => k_is)
    (case z6 => k_is)
    (case z7 => k_is)
    (case z8 => k_is)
    (case z9 => k_is)
    (case z10 => k_is)
#print axioms PySem.Challenge.cw_figurejudge_k32_what_machines_say_holds
