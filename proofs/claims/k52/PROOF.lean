import PyProof.Rows.All
import Wide.All
import OpenK.AllK
import Wide.FinOn
import Lean
import PyProof.EqAt
import PyProof.EqKinds
import PyProof.TupleCall
import PyProof.NeKinds
import PyProof.ListRange
import PyProof.Draws
import PyProof.Rows.SortStr
import KE.KDictSum
import KE.KEqDict
import KE.KDictOf
import KE.KRevSl
import PyProof.StrWalks
import PyProof.StrBlock2
import PyProof.SetKind
import PyProof.SetRoads
import PyProof.Rows.SetFrom
import PyProof.ReprRoads
import PyProof.ReprLen
import PyProof.NsDelKeeps
import PyProof.ListMulRoad
import PyProof.FactsAll.tuple_2
import KE.KLam
import KE.KNestM
import PyProof.AttrMissHeap
import PyProof.Rows.SortShell
import PySem.Challenge.RW_figurejudge_k52_no_two_rooms_alike
set_option Elab.async false
set_option linter.all false
set_option maxRecDepth 100000
namespace L2
open PySem PySem.Spec PyProof.Rows
abbrev Key := Sum Int Str
def keyIs : Key → Value → Bool
  | .inl k, v => Value.isInt k v
  | .inr x, v => Value.isStrOf x v
def keyH (w : World) : Key → Int
  | .inl k => hashInt k
  | .inr x => hashStr w x
theorem keyIs_shape : ∀ {k : Key} {v : Value}, keyIs k v = true → (∃ i t, k = Sum.inl i ∧ v = Value.int i t) ∨ (∃ x t, k = Sum.inr x ∧ v = Value.str x t)
  | .inl i, v, h => by
    obtain ⟨t, e⟩ := Value.isInt_shape (k := i) (v := v) h
    exact .inl ⟨i, t, rfl, e⟩
  | .inr x, v, h => by
    obtain ⟨t, e⟩ := Value.isStrOf_shape (x := x) (v := v) h
    exact .inr ⟨x, t, rfl, e⟩
theorem keyIs_int (i : Int) (t : Tok) : keyIs (.inl i) (.int i t) = true := by simp [keyIs, Value.isInt]
theorem keyIs_str (x : Str) (t : Tok) : keyIs (.inr x) (.str x t) = true := by simp [keyIs, Value.isStrOf]
theorem key_ll (a b : Int) : decide ((Sum.inl a : Key) = Sum.inl b) = (a == b) := by
  by_cases e : a = b
  · subst e; simp
  · have h : ¬ (Sum.inl a : Key) = Sum.inl b := fun q => e (Sum.inl.inj q)
    rw [decide_eq_false h]
    exact (beq_eq_false_iff_ne.mpr e).symm
theorem key_rr (a b : Str) : decide ((Sum.inr a : Key) = Sum.inr b) = decide (a = b) := by
  by_cases e : a = b
  · subst e; simp
  · have h : ¬ (Sum.inr a : Key) = Sum.inr b := fun q => e (Sum.inr.inj q)
    rw [decide_eq_false h, decide_eq_false e]
theorem key_lr (a : Int) (b : Str) : decide ((Sum.inl a : Key) = Sum.inr b) = false := decide_eq_false (fun q => nomatch q)
theorem key_rl (a : Str) (b : Int) : decide ((Sum.inr a : Key) = Sum.inl b) = false := decide_eq_false (fun q => nomatch q)
def mixKind (prog : Program) (w : World) : PySem.KeyKind prog w Key where
  is := keyIs
  hash := keyH w
  inj := fun v a b ha hb => by
    rcases keyIs_shape ha with ⟨i, t, rfl, rfl⟩ | ⟨x, t, rfl, rfl⟩
    · rcases keyIs_shape hb with ⟨j, u, rfl, e⟩ | ⟨y, u, rfl, e⟩
      · injection e with e1 _; rw [e1]
      · exact nomatch e
    · rcases keyIs_shape hb with ⟨j, u, rfl, e⟩ | ⟨y, u, rfl, e⟩
      · exact nomatch e
      · injection e with e1 _; rw [e1]
  byValue := fun k v h => by
    rcases keyIs_shape h with ⟨i, t, rfl, rfl⟩ | ⟨x, t, rfl, rfl⟩ <;> rfl
  pyHash := fun hv h => by
    rcases keyIs_shape hv with ⟨i, t, rfl, rfl⟩ | ⟨x, t, rfl, rfl⟩
    · exact wpAny_pyHash_int h
    · exact wpAny_pyHash_str h
  eqBool := fun hu hv h => by
    rcases keyIs_shape hu with ⟨i, t, rfl, rfl⟩ | ⟨x, t, rfl, rfl⟩
    · rcases keyIs_shape hv with ⟨j, u, rfl, rfl⟩ | ⟨y, u, rfl, rfl⟩
      · rw [key_ll] at h; exact wpAny_eqBool_int h
      · rw [key_lr] at h; exact SeqAt.EqAt.int_str i t y u _ _ _ _ h
    · rcases keyIs_shape hv with ⟨j, u, rfl, rfl⟩ | ⟨y, u, rfl, rfl⟩
      · rw [key_rl] at h; exact SeqAt.EqAt.str_int x t j u _ _ _ _ h
      · rw [key_rr] at h; exact wpAny_eqBool_str h
  «strs» := fun k x t v h => by
    rcases keyIs_shape h with ⟨i, u, rfl, e⟩ | ⟨y, u, rfl, e⟩
    · exact nomatch e
    · injection e with e1 _
      subst e1
      cases v <;> rfl
theorem mixKind_int (prog : Program) (w : World) (i : Int) (t : Tok) : (mixKind prog w).is (.inl i) (.int i t) = true := keyIs_int i t
theorem mixKind_str (prog : Program) (w : World) (x : Str) (t : Tok) : (mixKind prog w).is (.inr x) (.str x t) = true := keyIs_str x t
end L2
namespace L2
open PySem PySem.Spec PyProof.Rows
inductive V where
  | non | bl (b : Bool) | int (i : Int) | str (x : Str) | byt (b : Array UInt8) | flt (b : UInt64) | ref (a : Addr) | ty (n : String)
  deriving DecidableEq
def RelV : V → Value → Prop
  | .non, u => u = Value.none
  | .bl b, u => u = Value.bool b
  | .int i, u => ∃ t, u = Value.int i t
  | .str x, u => ∃ t, u = Value.str x t
  | .byt b, u => ∃ t, u = Value.bytes b t
  | .flt b, u => ∃ t, u = Value.float b t
  | .ref a, u => u = Value.ref a
  | .ty n, u => u = Value.type n
abbrev Vals : List V → List Value → Prop := Paired RelV
theorem Vals.length {xs : List V} {us : List Value} (r : Vals xs us) : xs.length = us.length := Paired.length r
theorem Vals.get : ∀ {xs : List V} {us : List Value} {i : Nat} {x : V}, Vals xs us → xs[i]? = some x → ∃ u, us[i]? = some u ∧ RelV x u
  | _, _, _, _, .nil, e => by simp at e
  | _, _, 0, _, .cons r _, e => by simp at e; subst e; exact ⟨_, rfl, r⟩
  | _, _, i + 1, x, .cons _ t, e => by
    obtain ⟨u, h1, h2⟩ := Vals.get (i := i) (x := x) t (by simpa using e)
    exact ⟨u, by simpa using h1, h2⟩
theorem Vals.set {x : V} {u : Value} (r : RelV x u) : ∀ {xs : List V} {us : List Value} (i : Nat), Vals xs us → Vals (xs.set i x) (us.set i u)
  | _, _, _, .nil => .nil
  | _, _, 0, .cons _ t => .cons r t
  | _, _, i + 1, .cons q t => .cons q (Vals.set r i t)
theorem Vals.append : ∀ {xs ys : List V} {us ws : List Value}, Vals xs us → Vals ys ws → Vals (xs ++ ys) (us ++ ws)
  | _, _, _, _, .nil, s => s
  | _, _, _, _, .cons r t, s => .cons r (Vals.append t s)
theorem Vals.take : ∀ {xs : List V} {us : List Value} (n : Nat), Vals xs us → Vals (xs.take n) (us.take n)
  | _, _, 0, _ => .nil
  | _, _, _ + 1, .nil => .nil
  | _, _, n + 1, .cons r t => .cons r (Vals.take n t)
theorem Vals.drop : ∀ {xs : List V} {us : List Value} (n : Nat), Vals xs us → Vals (xs.drop n) (us.drop n)
  | _, _, 0, r => r
  | _, _, _ + 1, .nil => .nil
  | _, _, n + 1, .cons _ t => Vals.drop n t
def RelO : Option V → Option Value → Prop
  | some v, some u => RelV v u
  | none, none => True
  | _, _ => False
def KV {κ : Type} : List (κ × V) → List (κ × Value) → Prop := Paired fun (p : κ × V) (q : κ × Value) => p.1 = q.1 ∧ RelV p.2 q.2
def kV : Key → V
  | .inl i => .int i
  | .inr x => .str x
inductive HO where
  | lst (xs : List V)
  | tup (xs : List V)
  | dK (kvs : List (Key × V)) | dT (kvs : List (List Key × V))
  | set (S : Int → Bool) (n : Nat)
  | ins (C dx : Addr) (fs : List (Str × V))
  | own (x : Addr)
  | xd (fs : List (Str × V))
  | met (f x : Addr)
  | rng (lo hi : Int)
  | frz (o : Obj) (u : HO)
  | tbl (ps : Array Value)
  | ext (φ : Heap → Prop)
abbrev Hp := Addr → Option HO
def upd (H : Hp) (a : Addr) (o : HO) : Hp := fun b => if b = a then some o else H b
theorem upd_same {H : Hp} {a : Addr} {o : HO} : upd H a o a = some o := by unfold upd; rw [if_pos rfl]
theorem upd_ne {H : Hp} {a b : Addr} {o : HO} (h : b ≠ a) : upd H a o b = H b := by unfold upd; rw [if_neg h]
theorem ne_of {H : Hp} {a b : Addr} {o u : HO} (h : H a = some o) (h' : H b = some u) (d : o ≠ u) : a ≠ b := by
  intro e; subst e; rw [h] at h'; exact d (Option.some.inj h')
theorem ne_of_none {H : Hp} {a b : Addr} {o : HO} (h : H a = some o) (h' : H b = none) : a ≠ b := by
  intro e; subst e; rw [h] at h'; cases h'
section
variable (P : Program) (w : World)
def ObjOk (H : Hp) (h : Heap) (a : Addr) : HO → Prop
  | .lst xs => xs.length ≤ sizeLine ∧ ∃ (its : List Value) (n : Nat), Vals xs its ∧ h.get? a = some { cls := .type "list", data := .seq its.toArray n }
  | .tup xs => xs.length ≤ sizeLine ∧ ∃ its : List Value, Vals xs its ∧ IsTup h a its.toArray
  | .dK kvs => kvs.length ≤ sizeLine ∧ (a == sysModules) = false ∧ ∃ vs, KV kvs vs ∧ h.DictOf (mixKind P w) a vs
  | .dT kvs => kvs.length ≤ sizeLine ∧ (a == sysModules) = false ∧ ∃ xs : List (List Key × Addr × Value),
      Paired (fun (p : List Key × V) (q : List Key × Addr × Value) => p.1 = q.1 ∧ H q.2.1 = some (.tup (p.1.map kV)) ∧ RelV p.2 q.2.2) kvs xs ∧
      ∃ o es ep, h.get? a = some o ∧ o.ExactDict ∧ o.data = .dict es ep ∧ es.toList = xs.map (entryOfKey (tupleKind (mixKind P w))) ∧ (xs.map (·.1)).Nodup
  | .set S n => h.SetOf (intKind P w) a S n
  | .ins C dx fs => H dx = some (.own a) ∧ fs.length ≤ 1000 ∧ dx ≠ a ∧ h.get? a = some (PySem.W.instObj C dx) ∧
      ∃ mA, h.Ns1 dx mA ∧ (∀ f, RelO (fs.lookup f) (mA f)) ∧ PySem.Within mA (fs.map (·.1))
  | .own _ => ∃ o, h.get? a = some o
  | .xd fs => ∃ mA, h.Ns1 a mA ∧ ∀ f, RelO (fs.lookup f) (mA f)
  | .rng lo hi => ∃ t u v, h.get? a = some { cls := .type "range", data := .fields #[.int lo t, .int hi u, .int 1 v] }
  | .frz o u => h.get? a = some o ∧ ObjOk H h a u
  | .tbl ps => h.get? a = some { cls := .none, data := .fields ps }
  | .met f x => h.get? a = some (PySem.W.methodObj (.ref f) (.ref x))
  | .ext φ => φ h ∧ (∃ o, h.get? a = some o) ∧ ∀ h1 h2 : Heap, φ h1 → (∀ o, h1.get? a = some o → h2.get? a = some o) → φ h2
def HOk (H : Hp) (h : Heap) : Prop := ∀ a o, H a = some o → ObjOk P w H h a o
end
section
variable {P : Program} {w : World} {H H' : Hp} {h h' : Heap} {a : Addr} {o : HO}
theorem ObjOk.lt (x : ObjOk P w H h a o) : a < h.objs.size := by
  cases o with
  | lst xs => obtain ⟨_, _, _, _, e⟩ := x; exact Heap.lt_size e
  | tup xs => obtain ⟨_, _, _, p⟩ := x; exact p.lt
  | dK kvs => obtain ⟨_, _, _, _, o, _, _, e, _⟩ := x; exact Heap.lt_size e
  | dT kvs => obtain ⟨_, _, _, _, o, _, _, e, _⟩ := x; exact Heap.lt_size e
  | set S n => obtain ⟨o, _, _, _, e, _⟩ := x; exact Heap.lt_size e
  | ins C dx fs => obtain ⟨_, _, _, e, _⟩ := x; exact Heap.lt_size e
  | own y => obtain ⟨_, e⟩ := x; exact Heap.lt_size e
  | xd fs => obtain ⟨_, ⟨_, _, _, e, _⟩, _⟩ := x; exact Heap.lt_size e
  | rng lo hi => obtain ⟨_, _, _, e⟩ := x; exact Heap.lt_size e
  | frz ob u => obtain ⟨e, _⟩ := x; exact Heap.lt_size e
  | tbl ps => exact Heap.lt_size (show h.get? a = some _ from x)
  | met f y => exact Heap.lt_size (show h.get? a = some _ from x)
  | ext φ => obtain ⟨_, ⟨_, e⟩, _⟩ := x; exact Heap.lt_size e
theorem Paired.mapP {α β : Type} {F G : α → β → Prop} : ∀ {l₁ : List α} {l₂ : List β}, Paired F l₁ l₂ → (∀ a b, F a b → G a b) → Paired G l₁ l₂
  | _, _, .nil, _ => .nil
  | _, _, .cons r t, f => .cons (f _ _ r) (Paired.mapP t f)
theorem ObjOk.stay (x : ObjOk P w H h a o) (k : ∀ b u, (b = a ∨ H b = some (.own a)) → h.get? b = some u → h'.get? b = some u)
    (ho : ∀ b, H b = some (.own a) → H' b = some (.own a)) (ht : ∀ b xs, H b = some (.tup xs) → H' b = some (.tup xs)) : ObjOk P w H' h' a o := by
  induction o with
  | lst xs => obtain ⟨z, its, n, r, e⟩ := x; exact ⟨z, its, n, r, k _ _ (.inl rfl) e⟩
  | tup xs => obtain ⟨z, its, r, ob, e, c⟩ := x; exact ⟨z, its, r, ob, k _ _ (.inl rfl) e, c⟩
  | dK kvs => obtain ⟨z, y, vs, r, ob, es, ep, e, c⟩ := x; exact ⟨z, y, vs, r, ob, es, ep, k _ _ (.inl rfl) e, c⟩
  | dT kvs =>
    obtain ⟨z, y, xs, r, ob, es, ep, e, c⟩ := x
    exact ⟨z, y, xs, Paired.mapP r fun p q z => ⟨z.1, ht _ _ z.2.1, z.2.2⟩, ob, es, ep, k _ _ (.inl rfl) e, c⟩
  | set S n => obtain ⟨ob, es, ep, t, e, c⟩ := x; exact ⟨ob, es, ep, t, k _ _ (.inl rfl) e, c⟩
  | ins C dx fs =>
    obtain ⟨d, z, ne, e, mA, ⟨od, es, ep, e2, c⟩, r⟩ := x
    exact ⟨ho _ d, z, ne, k _ _ (.inl rfl) e, mA, ⟨od, es, ep, k _ _ (.inr d) e2, c⟩, r⟩
  | own y => obtain ⟨ob, e⟩ := x; exact ⟨ob, k _ _ (.inl rfl) e⟩
  | xd fs => obtain ⟨mA, ⟨od, es, ep, e, c⟩, r⟩ := x; exact ⟨mA, ⟨od, es, ep, k _ _ (.inl rfl) e, c⟩, r⟩
  | rng lo hi => obtain ⟨t, u, v, e⟩ := x; exact ⟨t, u, v, k _ _ (.inl rfl) e⟩
  | frz ob u ih => obtain ⟨e, q⟩ := x; exact ⟨k _ _ (.inl rfl) e, ih q⟩
  | tbl ps =>
    have e : h.get? a = some { cls := .none, data := .fields ps } := x
    show h'.get? a = some { cls := .none, data := .fields ps }
    exact k a _ (.inl rfl) e
  | met f y =>
    have e : h.get? a = some (PySem.W.methodObj (.ref f) (.ref y)) := x
    show h'.get? a = some (PySem.W.methodObj (.ref f) (.ref y))
    exact k a _ (.inl rfl) e
  | ext φ => obtain ⟨p, ⟨o, e⟩, st⟩ := x; exact ⟨st _ _ p fun o q => k _ _ (.inl rfl) q, ⟨o, k _ _ (.inl rfl) e⟩, st⟩
theorem HOk.lt (x : HOk P w H h) (e : H a = some o) : a < h.objs.size := (x a o e).lt
theorem HOk.fresh (x : HOk P w H h) (e : h.objs.size ≤ a) : H a = none := by
  cases q : H a with
  | none => rfl
  | some u => exact absurd (Nat.lt_of_lt_of_le (x.lt q) e) (Nat.lt_irrefl _)
theorem HOk.kept (x : HOk P w H h) (k : ∀ b u, h.get? b = some u → h'.get? b = some u) : HOk P w H h' := fun a o e =>
  (x a o e).stay (fun b u _ q => k b u q) (fun _ q => q) fun _ _ q => q
theorem HOk.laid (x : HOk P w H h) (k : ∀ b u, h.get? b = some u → h'.get? b = some u) (hp : h.objs.size ≤ a) (new : ObjOk P w (upd H a o) h' a o) : HOk P w (upd H a o) h' := fun b u e => by
  have hn := x.fresh hp
  by_cases hb : b = a
  · subst hb; rw [upd_same] at e; cases e; exact new
  · rw [upd_ne hb] at e
    exact (x b u e).stay (fun c v _ q => k c v q) (fun c q => by rw [upd_ne (ne_of_none q hn)]; exact q) fun c xs q => by rw [upd_ne (ne_of_none q hn)]; exact q
end
def Rd (H : Hp) (a : Addr) (u : HO) : Prop := H a = some u ∨ ∃ o, H a = some (.frz o u)
theorem Rd.of {H : Hp} {a : Addr} {u : HO} (h : H a = some u) : Rd H a u := .inl h
theorem Rd.ok {P : Program} {w : World} {H : Hp} {h : Heap} {a : Addr} {u : HO} (r : Rd H a u) (x : HOk P w H h) : ObjOk P w H h a u := by
  rcases r with r | ⟨o, r⟩
  · exact x a u r
  · obtain ⟨_, q⟩ := x a _ r
    exact q
def Mut : Option HO → Prop
  | some (.lst _) => True
  | some (.dK _) => True
  | some (.dT _) => True
  | some (.set _ _) => True
  | some (.ins _ _ _) => True
  | some (.ext _) => True
  | _ => False
section
variable {P : Program} {w : World} {H : Hp} {h h' : Heap} {x e : Addr} {o' : HO}
theorem HOk.write (ok : HOk P w H h) (mu : Mut (H x)) (he : e = x ∨ H e = some (.own x)) (k : ∀ b u, b ≠ e → h.get? b = some u → h'.get? b = some u) (heo : ∃ u, h'.get? e = some u)
    (new : ObjOk P w (upd H x o') h' x o') : HOk P w (upd H x o') h' := fun b u q => by
  have nown : ∀ c y, H c = some (.own y) → c ≠ x := fun c y r z => by subst z; rw [r] at mu; exact mu
  have ntup : ∀ c xs, H c = some (.tup xs) → c ≠ x := fun c xs r z => by subst z; rw [r] at mu; exact mu
  by_cases hb : b = x
  · subst hb; rw [upd_same] at q; cases q; exact new
  · rw [upd_ne hb] at q
    by_cases hbe : b = e
    · have q' : H b = some (.own x) := by
        rcases he with z | z
        · exact absurd (hbe.trans z) hb
        · rw [hbe]; exact z
      rw [q] at q'; cases q'
      obtain ⟨v, hv⟩ := heo
      exact ⟨v, by rw [hbe]; exact hv⟩
    · refine (ok b u q).stay (fun c v hc r => k c v ?_ r) (fun c r => by rw [upd_ne (nown c b r)]; exact r) fun c xs r => by rw [upd_ne (ntup c xs r)]; exact r
      rcases hc with rfl | hc
      · exact hbe
      · rintro rfl
        rcases he with z | z
        · exact nown c b hc z
        · rw [hc] at z; cases z; exact hb rfl
end
structure Un (fs ex : List Addr) (H H' : Hp) (h h' : Heap) : Prop where
  keep : ∀ b o, h.get? b = some o → H b = none → b ∉ fs → b ∉ ex → h'.get? b = some o
  slot : ∀ b o, h.get? b = some o → H b = none → b ∈ fs → b ∉ ex → ∃ sl, h'.get? b = some { o with slots := sl }
  free : ∀ b o, h.get? b = some o → H b = none → b ∉ ex → H' b = none
  there : ∀ b o, h.get? b = some o → b ∉ ex → ∃ o', h'.get? b = some o'
  tups : ∀ b xs, H b = some (.tup xs) → H' b = some (.tup xs)
  frzs : ∀ b o u, H b = some (.frz o u) → H' b = some (.frz o u)
  tbls : ∀ b ps, H b = some (.tbl ps) → ∃ more, H' b = some (.tbl (ps ++ more))
section
variable {fs fs' ex ex' : List Addr} {H H1 H2 : Hp} {h h1 h2 h' : Heap} {a x e : Addr} {o : HO}
theorem Un.any (u : Un fs ex H H1 h h1) {b : Addr} {ob : Obj} (q : h.get? b = some ob) (n : H b = none) (hx : b ∉ ex) : ∃ sl, h1.get? b = some { ob with slots := sl } := by
  by_cases hb : b ∈ fs
  · exact u.slot b ob q n hb hx
  · exact ⟨ob.slots, u.keep b ob q n hb hx⟩
theorem Un.trans (a : Un fs ex H H1 h h1) (b : Un fs ex H1 H2 h1 h2) : Un fs ex H H2 h h2 where
  keep := fun c ob q n hc hx => b.keep c ob (a.keep c ob q n hc hx) (a.free c ob q n hx) hc hx
  slot := fun c ob q n hc hx => by
    obtain ⟨sl, e1⟩ := a.slot c ob q n hc hx
    obtain ⟨sl', e2⟩ := b.slot c _ e1 (a.free c ob q n hx) hc hx
    exact ⟨sl', e2⟩
  free := fun c ob q n hx => by
    obtain ⟨o', e1⟩ := a.there c ob q hx
    exact b.free c o' e1 (a.free c ob q n hx) hx
  there := fun c ob q hx => by
    obtain ⟨o', e1⟩ := a.there c ob q hx
    exact b.there c o' e1 hx
  tups := fun c xs q => b.tups c xs (a.tups c xs q)
  frzs := fun c ob xs q => b.frzs c ob xs (a.frzs c ob xs q)
  tbls := fun c ps q => by
    obtain ⟨m1, e1⟩ := a.tbls c ps q
    obtain ⟨m2, e2⟩ := b.tbls c _ e1
    exact ⟨m1 ++ m2, by rw [e2, Array.append_assoc]⟩
theorem Un.kept (k : ∀ b u, h.get? b = some u → h'.get? b = some u) : Un fs ex H H h h' :=
  ⟨fun b ob q _ _ _ => k b ob q, fun b ob q _ _ _ => ⟨ob.slots, k b ob q⟩, fun _ _ _ n _ => n, fun b ob q _ => ⟨ob, k b ob q⟩, fun _ _ q => q, fun _ _ _ q => q, fun _ ps q => ⟨#[], by rw [q]; simp⟩⟩
theorem Un.refl : Un fs ex H H h h := Un.kept fun _ _ q => q
theorem Un.laid (k : ∀ b u, h.get? b = some u → h'.get? b = some u) (hp : h.objs.size ≤ a) (hn : H a = none) : Un fs ex H (upd H a o) h h' where
  keep := fun b u q _ _ _ => k b u q
  slot := fun b u q _ _ _ => ⟨u.slots, k b u q⟩
  free := fun b u q n _ => by rw [upd_ne (Nat.ne_of_lt (Nat.lt_of_lt_of_le (Heap.lt_size q) hp))]; exact n
  there := fun b u q _ => ⟨u, k b u q⟩
  tups := fun b xs q => by rw [upd_ne (ne_of_none q hn)]; exact q
  frzs := fun b u xs q => by rw [upd_ne (ne_of_none q hn)]; exact q
  tbls := fun b ps q => ⟨#[], by rw [upd_ne (ne_of_none q hn), q]; simp⟩
theorem Un.write (mu : Mut (H x)) (he : e = x ∨ H e = some (.own x)) (k : ∀ b u, b ≠ e → h.get? b = some u → h'.get? b = some u) (heo : ∃ u, h'.get? e = some u) : Un fs ex H (upd H x o) h h' := by
  have hx : ∀ b, H b = none → b ≠ x := fun b n z => by subst z; rw [n] at mu; exact mu
  have hb : ∀ b, H b = none → b ≠ e := fun b n z => by
    subst z
    rcases he with r | r
    · exact hx b n r
    · rw [n] at r; cases r
  have hm : ∀ b u, H b = some u → ¬ Mut (some u) → b ≠ x := fun b u q nm z => by subst z; rw [q] at mu; exact nm mu
  refine ⟨fun b u q n _ _ => k b u (hb b n) q, fun b u q n _ _ => ⟨u.slots, k b u (hb b n) q⟩, fun b u q n _ => by rw [upd_ne (hx b n)]; exact n, fun b u q _ => ?_,
    fun b xs q => by rw [upd_ne (hm b _ q fun z => z)]; exact q, fun b u xs q => by rw [upd_ne (hm b _ q fun z => z)]; exact q, fun b ps q => ⟨#[], by rw [upd_ne (hm b _ q fun z => z), q]; simp⟩⟩
  by_cases hbe : b = e
  · subst hbe; exact heo
  · exact ⟨u, k b u hbe q⟩
theorem Un.mono (u : Un fs ex H H1 h h1) (hs : ∀ b ∈ fs, b ∈ fs') (hx : ∀ b ∈ ex, b ∈ ex') : Un fs' ex' H H1 h h1 :=
  ⟨fun b ob q n hb he => u.keep b ob q n (fun z => hb (hs b z)) fun z => he (hx b z), fun _ _ q n _ he => u.any q n fun z => he (hx _ z), fun b ob q n he => u.free b ob q n fun z => he (hx b z), fun b ob q he => u.there b ob q fun z => he (hx b z), u.tups, u.frzs, u.tbls⟩
end
def trk (h : Heap) (H : Hp) : List Addr := (List.range h.objs.size).filter fun a => (H a).isSome
def hidT (h : Heap) (H : Hp) : Heap := PySem.W.hideAll h (trk h H)
theorem hidT_size (h : Heap) (H : Hp) : (hidT h H).objs.size = h.objs.size := PySem.W.hideAll_size _ _
theorem hidT_get {h : Heap} {H : Hp} {b : Addr} {o : Obj} (e : h.get? b = some o) (n : H b = none) : (hidT h H).get? b = some o :=
  PySem.W.hideAll_get _ e fun hm => by
    have q : (H b).isSome = true := (List.mem_filter.mp hm).2
    rw [n] at q; simp at q
theorem of_hidT {h : Heap} {H : Hp} {b : Addr} {o : Obj} (e : (hidT h H).get? b = some o) : h.get? b = some o ∧ H b = none := by
  have e' : h.get? b = some o := PySem.W.of_hideAll (trk h H) e
  refine ⟨e', ?_⟩
  cases q : H b with
  | none => rfl
  | some x =>
    have hm : b ∈ trk h H := List.mem_filter.mpr ⟨List.mem_range.mpr (Heap.lt_size e'), by simp [q]⟩
    have z : (hidT h H).get? b = none := PySem.W.hideAll_none (trk h H) hm
    rw [z] at e; cases e
def allNews (g h : Heap) (L : Addr) : List (Addr × Obj) := (List.range h.objs.size).filterMap fun a => if a = L ∨ (g.get? a).isSome = true then none else (h.get? a).map fun o => (a, o)
def rest (g h : Heap) (L d : Addr) : List (Addr × Obj) := (allNews g h L).filter fun p => decide (p.1 ≠ d)
end L2
namespace L2
open PySem PySem.Spec PyProof.Rows
structure Mod (K : PySem.W.Frag) (mg : Str → Option Value) (base : Heap) : Prop where
  kin : K.In base
  glob : base.Ns mainGlobals mg
  blt : ∃ mb, base.Ns builtinsNs mb ∧ ∀ x : Str, x ≠ "__name__" → mb x = bootBuiltins x
  nolimit : base.NoLimit
structure Cx where
  prog : Program
  w : World
  K : PySem.W.Frag
  mg : Str → Option Value
  base : Heap
  A : Around
  N : List Str
  s₀ : Shared
  H₀ : Hp
  env : Env
  outer : List Env
  stack : List Env
  ex : List Addr
  fn : Str → Bool
  calm : Bool
  pn : List (Addr × Obj)
  xe : Value → Shared → Prop
def frs (l : List Env) : List Addr := l.filterMap (·.frame)
abbrev Cx.fs (X : Cx) : List Addr := frs X.outer
def Vis (sc : Scope) (x : Str) : Prop := sc.names.lookup x = some .local ∨ sc.names.lookup x = some .cell ∨ sc.names.lookup x = some .free
def Loc (sc : Scope) (x : Str) : Prop := sc.names.lookup x = some .local ∨ sc.names.lookup x = some .cell
def Look (env : Env) (h : Heap) (m : Str → Option Value) (x : Str) (u : Value) : Prop :=
  (env.kindOf x = some .local ∧ m x = some u) ∨ ((env.kindOf x = some .cell ∨ env.kindOf x = some .free) ∧ ∃ c, env.cells.lookup x = some c ∧ h.IsCell c (some u))
structure Cx.Ok (X : Cx) : Prop where
  mod : Mod X.K X.mg X.base
  kind : X.env.scope.kind = .function
  glob : X.env.globals = mainGlobals
  blt : X.env.builtins = builtinsNs
  above : X.s₀.heap.objs.size ≤ X.env.locals
  inj : ∀ x y c, X.env.cells.lookup x = some c → X.env.cells.lookup y = some c → x = y
  has : ∀ x, (X.env.kindOf x = some .cell ∨ X.env.kindOf x = some .free) → ∃ c, X.env.cells.lookup x = some c
  cab : ∀ x c, X.fn x = true → X.env.cells.lookup x = some c → X.s₀.heap.objs.size ≤ c
  hd : X.calm = true → X.A.handled = none
  frames : X.A.frames = some X.stack
  stk : X.stack = X.outer ∨ (X.stack = X.env :: X.outer ∧ X.env.frame = some X.env.locals)
  exf : ∀ b ∈ X.ex, b ≠ X.env.locals ∧ ∀ x c, X.env.cells.lookup x = some c → c ≠ b
  bs : ∀ b o, X.base.get? b = some o → X.s₀.heap.get? b = some o ∧ X.H₀ b = none
  bsz : X.base.objs.size ≤ X.s₀.heap.objs.size
  noex : ∀ b o, X.base.get? b = some o → b ∉ X.ex
  exfs : ∀ b ∈ X.ex, b ∉ X.fs
  funs : X.s₀.heap.FunFrames X.base X.outer
  frf : ∀ b ∈ X.fs, X.H₀ b = none
structure Inv (X : Cx) (pins : List (Addr × Obj)) (σ : List (Option V)) (H : Hp) (s : Shared) : Prop where
  ok : X.Ok
  os : s.os = X.s₀.os
  bare : AllBare s.gens
  base : Un X.fs X.ex X.H₀ H X.s₀.heap s.heap
  loc : ∃ m, s.heap.Ns X.env.locals m ∧ ∀ (i : Nat) (x : Str) (v : V), X.N[i]? = some x → σ[i]? = some (some v) → Vis X.env.scope x → ∃ u, RelV v u ∧ Look X.env s.heap m x u
  cell : ∀ x c, X.env.cells.lookup x = some c → ∃ v, s.heap.IsCell c v
  free : H X.env.locals = none
  freeC : ∀ x c, X.env.cells.lookup x = some c → H c = none
  pin : ∀ p ∈ X.pn ++ pins, s.heap.get? p.1 = some p.2 ∧ H p.1 = none ∧ p.1 ≠ X.env.locals ∧ p.1 ∉ X.fs ∧ ∀ v, p.2.data ≠ .cell v
  hok : HOk X.prog X.w H s.heap
  len : σ.length = X.N.length
section
variable {X : Cx} {pins : List (Addr × Obj)} {σ : List (Option V)} {H H' : Hp} {s : Shared} {h' : Heap}
theorem Cx.Ok.nofr (ok : X.Ok) {b : Addr} {o : Obj} (e : X.base.get? b = some o) : b ∉ X.fs := fun hb => by
  have := (ok.funs.mem hb).1
  rw [e] at this; cases this
theorem Inv.bs (I : Inv X pins σ H s) : ∀ b o, X.base.get? b = some o → s.heap.get? b = some o ∧ H b = none := fun b o e =>
  ⟨I.base.keep b o (I.ok.bs b o e).1 (I.ok.bs b o e).2 (I.ok.nofr e) (I.ok.noex b o e), I.base.free b o (I.ok.bs b o e).1 (I.ok.bs b o e).2 (I.ok.noex b o e)⟩
theorem Inv.bk (I : Inv X pins σ H s) : ∀ b o, X.base.get? b = some o → s.heap.get? b = some o := fun b o e => (I.bs b o e).1
theorem Inv.mod (I : Inv X pins σ H s) : Mod X.K X.mg X.base := I.ok.mod
theorem Inv.kIn (I : Inv X pins σ H s) : X.K.In s.heap := I.ok.mod.kin.keeps I.bk
theorem Inv.nolimit (I : Inv X pins σ H s) : s.heap.NoLimit := I.ok.mod.nolimit.keeps I.bk
theorem Inv.fr (I : Inv X pins σ H s) : ∃ m, Fr X.base X.env.locals s.heap m :=
  let ⟨m, hn, _⟩ := I.loc
  ⟨m, hn, I.bk, Nat.le_trans I.ok.bsz I.ok.above⟩
theorem Inv.lt (I : Inv X pins σ H s) : X.env.locals < s.heap.objs.size := let ⟨_, hn, _⟩ := I.loc; hn.lt
theorem Inv.sz (I : Inv X pins σ H s) : X.s₀.heap.objs.size ≤ s.heap.objs.size := Nat.le_trans I.ok.above (Nat.le_of_lt I.lt)
theorem Inv.nofs (I : Inv X pins σ H s) {a : Addr} (h : s.heap.objs.size ≤ a) : a ∉ X.fs := fun hb => by
  obtain ⟨_, o, ho, _⟩ := I.ok.funs.mem hb
  exact absurd (Nat.lt_of_lt_of_le (Heap.lt_size ho) (Nat.le_trans I.sz h)) (Nat.lt_irrefl _)
theorem Inv.cne (I : Inv X pins σ H s) : ∀ x c, X.env.cells.lookup x = some c → c ≠ X.env.locals := fun x c e z => by
  obtain ⟨v, o, ho, hd⟩ := I.cell x c e
  obtain ⟨m, ⟨o', es, ep, ho', hd', _⟩, _⟩ := I.loc
  rw [z, ho'] at ho; cases ho; rw [hd'] at hd; cases hd
theorem Inv.funs (I : Inv X pins σ H s) : s.heap.FunFrames X.base X.outer := by
  have all : ∀ (l : List Env), (∀ b ∈ frs l, b ∈ X.fs) → X.s₀.heap.FunFrames X.base l → s.heap.FunFrames X.base l := by
    intro l
    induction l with
    | nil => intro _ _; trivial
    | cons env r ih =>
      intro hs hl
      obtain ⟨hk, ⟨L, o, hf, hn, ho, hd⟩, hr⟩ := hl
      have hL : L ∈ X.fs := hs L (by unfold frs; rw [List.filterMap_cons, hf]; exact List.mem_cons_self)
      obtain ⟨sl, e⟩ := I.base.slot L o ho (I.ok.frf L hL) hL fun z => I.ok.exfs L z hL
      exact ⟨hk, ⟨L, _, hf, hn, e, hd⟩, ih (fun b hb => hs b (by unfold frs; rw [List.filterMap_cons, hf]; exact List.mem_cons_of_mem _ hb)) hr⟩
  exact all X.outer (fun _ hb => hb) I.ok.funs
theorem Inv.stack (I : Inv X pins σ H s) : s.heap.FunFrames X.base X.stack := by
  rcases I.ok.stk with e | ⟨e, hf⟩
  · rw [e]; exact I.funs
  · rw [e]
    obtain ⟨m, hn, _⟩ := I.loc
    refine .cons (by rw [I.ok.kind]; decide) hf hn ?_ I.funs
    exact Heap.get?_none_of_le (Nat.le_trans I.ok.bsz I.ok.above)
theorem Inv.stkSub (I : Inv X pins σ H s) : ∀ b ∈ frs X.stack, b ∈ X.env.locals :: X.fs := fun b hb => by
  rcases I.ok.stk with e | ⟨e, hf⟩
  · rw [e] at hb; exact List.mem_cons_of_mem _ hb
  · rw [e] at hb
    unfold frs at hb
    rw [List.filterMap_cons, hf] at hb
    exact hb
theorem Inv.stkFree (I : Inv X pins σ H s) : ∀ b ∈ frs X.stack, H b = none := fun b hb => by
  rcases List.mem_cons.mp (I.stkSub b hb) with e | hb
  · rw [e]; exact I.free
  · obtain ⟨_, o, ho, _⟩ := I.ok.funs.mem hb
    exact I.base.free b o ho (I.ok.frf b hb) fun z => I.ok.exfs b z hb
theorem Inv.step {g' : Array GenState} {t' : Nat} {d' : Drawn} {ch : List Addr} (I : Inv X pins σ H s)
    (hch : ∀ b ∈ ch, (b ∈ X.ex ∨ X.s₀.heap.objs.size ≤ b) ∧ b ≠ X.env.locals ∧ (∀ x c, X.env.cells.lookup x = some c → c ≠ b) ∧ ∀ p ∈ X.pn ++ pins, p.1 ≠ b)
    (keep : ∀ b o, b ≠ X.env.locals → b ∉ X.fs → b ∉ ch → s.heap.get? b = some o → H b = none → h'.get? b = some o)
    (slot : ∀ b o, b ≠ X.env.locals → b ∈ X.fs → b ∉ ch → s.heap.get? b = some o → H b = none → ∃ sl, h'.get? b = some { o with slots := sl }) (free : ∀ b o, b ∉ ch → s.heap.get? b = some o → H b = none → H' b = none)
    (there : ∀ b o, b ∉ ch → s.heap.get? b = some o → ∃ o', h'.get? b = some o')
    (tups : ∀ b xs, H b = some (.tup xs) → H' b = some (.tup xs)) (frzs : ∀ b o u, H b = some (.frz o u) → H' b = some (.frz o u)) (tbls : ∀ b ps, H b = some (.tbl ps) → ∃ more, H' b = some (.tbl (ps ++ more)))
    (ns : ∀ m, s.heap.Ns X.env.locals m → h'.Ns X.env.locals m) (hok : HOk X.prog X.w H' h') (hg : AllBare g') :
    Inv X pins σ H' { s with heap := h', gens := g', drawn := d', toks := t' } := by
  have neL : ∀ b o, X.s₀.heap.get? b = some o → b ≠ X.env.locals := fun b o e => Nat.ne_of_lt (Nat.lt_of_lt_of_le (Heap.lt_size e) I.ok.above)
  have neC : ∀ b o, X.s₀.heap.get? b = some o → b ∉ X.ex → b ∉ ch := fun b o e hx hb => by
    rcases (hch b hb).1 with z | z
    · exact hx z
    · exact absurd (Nat.lt_of_lt_of_le (Heap.lt_size e) z) (Nat.lt_irrefl _)
  have cellK : ∀ x c, X.env.cells.lookup x = some c → ∀ v, s.heap.IsCell c v → h'.IsCell c v := fun x c e v ⟨o, ho, hd⟩ => by
    have nch : c ∉ ch := fun z => (hch c z).2.2.1 x c e rfl
    by_cases hc : c ∈ X.fs
    · obtain ⟨sl, q⟩ := slot c o (I.cne x c e) hc nch ho (I.freeC x c e)
      exact ⟨_, q, hd⟩
    · exact ⟨o, keep c o (I.cne x c e) hc nch ho (I.freeC x c e), hd⟩
  refine ⟨I.ok, I.os, hg, ⟨fun b o e n hb hx => ?_, fun b o e n hb hx => ?_, fun b o e n hx => ?_, fun b o e hx => ?_, fun b xs e => tups b xs (I.base.tups b xs e), fun b o xs e => frzs b o xs (I.base.frzs b o xs e), fun b ps e => ?_⟩, ?_, fun x c e => ?_, ?_, fun x c e => ?_, fun p hp => ?_, hok, I.len⟩
  · exact keep b o (neL b o e) hb (neC b o e hx) (I.base.keep b o e n hb hx) (I.base.free b o e n hx)
  · obtain ⟨sl, e1⟩ := I.base.slot b o e n hb hx
    obtain ⟨sl', e2⟩ := slot b _ (neL b o e) hb (neC b o e hx) e1 (I.base.free b o e n hx)
    exact ⟨sl', e2⟩
  · obtain ⟨o', e1⟩ := I.base.there b o e hx
    exact free b o' (neC b o e hx) e1 (I.base.free b o e n hx)
  · obtain ⟨o', e1⟩ := I.base.there b o e hx
    exact there b o' (neC b o e hx) e1
  · obtain ⟨m1, e1⟩ := I.base.tbls b ps e
    obtain ⟨m2, e2⟩ := tbls b _ e1
    exact ⟨m1 ++ m2, by rw [e2, Array.append_assoc]⟩
  · obtain ⟨m, hn, hl⟩ := I.loc
    refine ⟨m, ns m hn, fun i x v e1 e2 e3 => ?_⟩
    obtain ⟨u, r, l⟩ := hl i x v e1 e2 e3
    refine ⟨u, r, ?_⟩
    rcases l with l | ⟨k, c, e, z⟩
    · exact .inl l
    · exact .inr ⟨k, c, e, cellK x c e _ z⟩
  · obtain ⟨v, z⟩ := I.cell x c e
    exact ⟨v, cellK x c e v z⟩
  · obtain ⟨m, ⟨o, _, _, ho, _⟩, _⟩ := I.loc
    exact free _ o (fun z => (hch _ z).2.1 rfl) ho I.free
  · obtain ⟨v, o, ho, hd⟩ := I.cell x c e
    exact free c o (fun z => (hch c z).2.2.1 x c e rfl) ho (I.freeC x c e)
  · obtain ⟨e, n, ne, nf, d⟩ := I.pin p hp
    have nch : p.1 ∉ ch := fun z => (hch p.1 z).2.2.2 p hp rfl
    exact ⟨keep p.1 p.2 ne nf nch e n, free p.1 p.2 nch e n, ne, nf, d⟩
theorem Inv.un {t' : Nat} (I : Inv X pins σ H s) (u : Un X.fs [] H H' s.heap h') (hok : HOk X.prog X.w H' h') : Inv X pins σ H' { s with heap := h', toks := t' } := by
  obtain ⟨m, ⟨o, es, ep, ho, r⟩, _⟩ := id I.loc
  obtain ⟨sl, hL⟩ := u.any ho I.free (by simp)
  exact I.step (g' := s.gens) (d' := s.drawn) (ch := []) (fun _ z => nomatch z) (fun b o _ hb _ e n => u.keep b o e n hb (by simp)) (fun b o _ hb _ e n => u.slot b o e n hb (by simp)) (fun b o _ e n => u.free b o e n (by simp)) (fun b o _ e => u.there b o e (by simp)) u.tups u.frzs u.tbls (fun m' hm => by
    obtain ⟨o', es', ep', ho', r'⟩ := hm
    rw [ho] at ho'; cases ho'
    exact ⟨_, es', ep', hL, r'⟩) hok I.bare
theorem Inv.call {g' : Array GenState} {t' : Nat} {d' : Drawn} {ch : List Addr} (I : Inv X pins σ H s) (u : Un (frs X.stack) ch H H' s.heap h') (hok : HOk X.prog X.w H' h') (hg : AllBare g')
    (hch : ∀ b ∈ ch, (b ∈ X.ex ∨ X.s₀.heap.objs.size ≤ b) ∧ b ≠ X.env.locals ∧ (∀ x c, X.env.cells.lookup x = some c → c ≠ b) ∧ ∀ p ∈ X.pn ++ pins, p.1 ≠ b) :
    Inv X pins σ H' { s with heap := h', gens := g', drawn := d', toks := t' } := by
  obtain ⟨m, ⟨o, es, ep, ho, r⟩, _⟩ := id I.loc
  obtain ⟨sl, hL⟩ := u.any ho I.free fun z => (hch _ z).2.1 rfl
  exact I.step (ch := ch) hch (fun b o hL hb hc e n => u.keep b o e n (fun z => (List.mem_cons.mp (I.stkSub b z)).elim hL hb) hc) (fun b o _ _ hc e n => u.any e n hc) (fun b o hc e n => u.free b o e n hc) (fun b o hc e => u.there b o e hc) u.tups u.frzs u.tbls (fun m' hm => by
    obtain ⟨o', es', ep', ho', r'⟩ := hm
    rw [ho] at ho'; cases ho'
    exact ⟨_, es', ep', hL, r'⟩) hok hg
theorem Inv.turned {t' : Nat} {it : Addr} (I : Inv X pins σ H s) (k : ∀ b o, b ≠ it → s.heap.get? b = some o → h'.get? b = some o) (hn : H it = none) (hL : it ≠ X.env.locals)
    (h1 : it ∈ X.ex ∨ X.s₀.heap.objs.size ≤ it) (h2 : ∀ x c, X.env.cells.lookup x = some c → c ≠ it) (h3 : ∀ p ∈ X.pn ++ pins, p.1 ≠ it) : Inv X pins σ H { s with heap := h', toks := t' } := by
  have nit : ∀ b u, H b = some u → b ≠ it := fun b u e z => by rw [z, hn] at e; cases e
  refine I.step (g' := s.gens) (d' := s.drawn) (ch := [it]) (fun b hb => ?_) (fun b o _ _ hc e _ => k b o (fun z => hc (by simp [z])) e) (fun b o _ _ hc e _ => ⟨o.slots, k b o (fun z => hc (by simp [z])) e⟩) (fun _ _ _ _ n => n)
    (fun b o hc e => ⟨o, k b o (fun z => hc (by simp [z])) e⟩) (fun _ _ e => e) (fun _ _ _ e => e) (fun b ps e => ⟨#[], by rw [e]; simp⟩) (fun m hm => ?_) (fun b u e => ?_) I.bare
  · have e : b = it := by simpa using hb
    subst e
    exact ⟨h1, hL, h2, h3⟩
  · obtain ⟨o, es, ep, ho, r⟩ := hm
    exact ⟨o, es, ep, k _ o (Ne.symm hL) ho, r⟩
  · refine (I.hok b u e).stay (fun c v hc q => k c v ?_ q) (fun _ q => q) fun _ _ q => q
    rcases hc with z | z
    · rw [z]; exact nit b u e
    · exact nit c _ z
theorem Inv.tok (I : Inv X pins σ H s) (t : Nat) : Inv X pins σ H { s with toks := t } := I.un (h' := s.heap) (t' := t) Un.refl I.hok
theorem Inv.kept {t' : Nat} (I : Inv X pins σ H s) (k : ∀ b u, s.heap.get? b = some u → h'.get? b = some u) : Inv X pins σ H { s with heap := h', toks := t' } := I.un (Un.kept k) (I.hok.kept k)
theorem Inv.laid {a : Addr} {o : HO} {t' : Nat} (I : Inv X pins σ H s) (k : ∀ b u, s.heap.get? b = some u → h'.get? b = some u) (hp : s.heap.objs.size ≤ a) (new : ObjOk X.prog X.w (upd H a o) h' a o) :
    Inv X pins σ (upd H a o) { s with heap := h', toks := t' } := I.un (Un.laid k hp (I.hok.fresh hp)) (I.hok.laid k hp new)
theorem Inv.write {x e : Addr} {o : HO} {t' : Nat} (I : Inv X pins σ H s) (mu : Mut (H x)) (he : e = x ∨ H e = some (.own x)) (k : ∀ b u, b ≠ e → s.heap.get? b = some u → h'.get? b = some u) (heo : ∃ u, h'.get? e = some u)
    (new : ObjOk X.prog X.w (upd H x o) h' x o) : Inv X pins σ (upd H x o) { s with heap := h', toks := t' } := I.un (Un.write mu he k heo) (I.hok.write mu he k heo new)
theorem Inv.pins_of {pins' : List (Addr × Obj)} (I : Inv X pins σ H s) (h : ∀ p ∈ pins', s.heap.get? p.1 = some p.2 ∧ H p.1 = none ∧ p.1 ≠ X.env.locals ∧ p.1 ∉ X.fs ∧ ∀ v, p.2.data ≠ .cell v) : Inv X pins' σ H s :=
  ⟨I.ok, I.os, I.bare, I.base, I.loc, I.cell, I.free, I.freeC, fun p hp => (List.mem_append.mp hp).elim (fun z => I.pin p (List.mem_append_left _ z)) (h p), I.hok, I.len⟩
theorem nodup_ix {N : List Str} (hN : N.Nodup) {i j : Nat} {x : Str} (a : N[i]? = some x) (b : N[j]? = some x) : i = j := by
  obtain ⟨h1, e1⟩ := List.getElem?_eq_some_iff.mp a
  obtain ⟨h2, e2⟩ := List.getElem?_eq_some_iff.mp b
  exact (List.getElem_inj hN).mp (e1.trans e2.symm)
theorem store_ok2 {M : Model} {A : Around} {E : Value → Shared → Prop} {i : Nat} {x : Str} {v : V} {u : Value} {Q : Unit → Shared → Prop} (I : Inv X pins σ H s) (hN : X.N.Nodup) (hi : X.N[i]? = some x) (hx : Loc X.env.scope x) (r : RelV v u)
    (h : ∀ s', Inv X pins (σ.set i (some v)) H s' → (∃ a, Heap.SameBut a s.heap s'.heap ∧ (a = X.env.locals ∨ X.env.cells.lookup x = some a)) → Q () s') (hf : X.fn x = true ∨ X.env.scope.names.lookup x = some .local := by first | exact .inl rfl | exact .inr rfl | assumption) : wpAny M A (storeName X.env x u) Q E s := by
  obtain ⟨m, hn, hl⟩ := id I.loc
  have hcls : (X.env.scope.kind == .class || (X.env.scope.kind == .module && X.env.locals != X.env.globals)) = false := by rw [I.ok.kind]; rfl
  have hiσ : i < σ.length := by rw [I.len]; exact (List.getElem?_eq_some_iff.mp hi).1
  have cne := I.cne
  have tracked : ∀ {a : Addr} {h' : Heap}, (∃ o, s.heap.get? a = some o ∧ H a = none) → Heap.SameBut a s.heap h' → HOk X.prog X.w H h' := fun {a h'} ha hs b ob e => by
    obtain ⟨_, _, hfree⟩ := ha
    refine (I.hok b ob e).stay (fun c w' hc q => (hs.2 c ?_).trans q) (fun _ q => q) fun _ _ q => q
    rintro rfl
    rcases hc with rfl | hc
    · rw [hfree] at e; cases e
    · rw [hfree] at hc; cases hc
  rcases hx with hk | hk
  · refine wpAny_storeName_local hk hn (fun h' hn' hs => ?_) hcls
    obtain ⟨oL, _, _, hoL, _⟩ := id hn
    refine h _ ⟨I.ok, I.os, I.bare, ⟨fun b o e n hb hx => ?_, fun b o e n hb hx => ?_, I.base.free, fun b o e hx => ?_, I.base.tups, I.base.frzs, I.base.tbls⟩, ⟨_, hn', fun j y v' e1 e2 e3 => ?_⟩, fun y c e => ?_, I.free, I.freeC, fun p hp => ?_, tracked ⟨oL, hoL, I.free⟩ hs, by simpa using I.len⟩ ⟨_, hs, .inl rfl⟩
    · exact (hs.2 b (Nat.ne_of_lt (Nat.lt_of_lt_of_le (Heap.lt_size e) I.ok.above))).trans (I.base.keep b o e n hb hx)
    · obtain ⟨sl, e1⟩ := I.base.slot b o e n hb hx
      exact ⟨sl, (hs.2 b (Nat.ne_of_lt (Nat.lt_of_lt_of_le (Heap.lt_size e) I.ok.above))).trans e1⟩
    · obtain ⟨o', e1⟩ := I.base.there b o e hx
      exact ⟨o', (hs.2 b (Nat.ne_of_lt (Nat.lt_of_lt_of_le (Heap.lt_size e) I.ok.above))).trans e1⟩
    · by_cases hj : j = i
      · subst hj
        rw [hi] at e1; cases e1
        rw [List.getElem?_set_self hiσ] at e2
        cases e2
        exact ⟨u, r, .inl ⟨hk, by simp⟩⟩
      · rw [List.getElem?_set_ne (Ne.symm hj)] at e2
        obtain ⟨u', r', q⟩ := hl j y v' e1 e2 e3
        refine ⟨u', r', ?_⟩
        rcases q with ⟨k, e⟩ | ⟨k, c, e, z⟩
        · refine .inl ⟨k, ?_⟩
          have : y ≠ x := fun e => hj (nodup_ix hN e1 (e ▸ hi))
          simp [this, e]
        · exact .inr ⟨k, c, e, z.sameBut hs (cne y c e)⟩
    · obtain ⟨w', z⟩ := I.cell y c e
      exact ⟨w', z.sameBut hs (cne y c e)⟩
    · obtain ⟨e, n, ne, nf, d⟩ := I.pin p hp
      exact ⟨(hs.2 p.1 ne).trans e, n, ne, nf, d⟩
  · have hfn : X.fn x = true := by
      rcases hf with z | z
      · exact z
      · rw [z] at hk; cases hk
    obtain ⟨c, hc⟩ := I.ok.has x (.inl hk)
    obtain ⟨w', z⟩ := I.cell x c hc
    refine wpAny_storeName_cell I.ok.kind hk hc z (fun h' hc' hs => ?_)
    obtain ⟨oc, hoc, hocd⟩ := id z
    refine h { s with heap := h' } ⟨I.ok, I.os, I.bare, ⟨fun b o e n hb hx => ?_, fun b o e n hb hx => ?_, I.base.free, fun b o e hx => ?_, I.base.tups, I.base.frzs, I.base.tbls⟩, ⟨m, hn.sameBut hs (Ne.symm (cne x c hc)), fun j y v' e1 e2 e3 => ?_⟩, fun y c' e => ?_, I.free, I.freeC, fun p hp => ?_, tracked ⟨oc, hoc, I.freeC x c hc⟩ hs, by simpa using I.len⟩ ⟨c, hs, .inr hc⟩
    · exact (hs.2 b (Nat.ne_of_lt (Nat.lt_of_lt_of_le (Heap.lt_size e) (I.ok.cab x c hfn hc)))).trans (I.base.keep b o e n hb hx)
    · obtain ⟨sl, e1⟩ := I.base.slot b o e n hb hx
      exact ⟨sl, (hs.2 b (Nat.ne_of_lt (Nat.lt_of_lt_of_le (Heap.lt_size e) (I.ok.cab x c hfn hc)))).trans e1⟩
    · obtain ⟨o', e1⟩ := I.base.there b o e hx
      exact ⟨o', (hs.2 b (Nat.ne_of_lt (Nat.lt_of_lt_of_le (Heap.lt_size e) (I.ok.cab x c hfn hc)))).trans e1⟩
    · by_cases hj : j = i
      · subst hj
        rw [hi] at e1; cases e1
        rw [List.getElem?_set_self hiσ] at e2
        cases e2
        exact ⟨u, r, .inr ⟨.inl hk, c, hc, hc'⟩⟩
      · rw [List.getElem?_set_ne (Ne.symm hj)] at e2
        obtain ⟨u', r', q⟩ := hl j y v' e1 e2 e3
        refine ⟨u', r', ?_⟩
        rcases q with q | ⟨k, c', e, z'⟩
        · exact .inl q
        · refine .inr ⟨k, c', e, z'.sameBut hs ?_⟩
          rintro rfl
          exact hj (nodup_ix hN e1 (I.ok.inj _ _ _ e hc ▸ hi))
    · by_cases hcc : c' = c
      · subst hcc; exact ⟨_, hc'⟩
      · obtain ⟨w2, z2⟩ := I.cell y c' e
        exact ⟨w2, z2.sameBut hs hcc⟩
    · obtain ⟨e, n, ne, nf, d⟩ := I.pin p hp
      refine ⟨(hs.2 p.1 ?_).trans e, n, ne, nf, d⟩
      intro q
      rw [q, hoc] at e
      have q' : oc = p.2 := Option.some.inj e
      exact d w' (by rw [← q']; exact hocd)
theorem store_ok {M : Model} {A : Around} {E : Value → Shared → Prop} {i : Nat} {x : Str} {v : V} {u : Value} {Q : Unit → Shared → Prop} (I : Inv X pins σ H s) (hN : X.N.Nodup) (hi : X.N[i]? = some x) (hx : Loc X.env.scope x) (r : RelV v u)
    (h : ∀ s', Inv X pins (σ.set i (some v)) H s' → Q () s') (hf : X.fn x = true ∨ X.env.scope.names.lookup x = some .local := by first | exact .inl rfl | exact .inr rfl | assumption) : wpAny M A (storeName X.env x u) Q E s :=
  store_ok2 I hN hi hx r (fun s' I' _ => h s' I') hf
theorem Inv.call' {s' : Shared} {ch : List Addr} (I : Inv X pins σ H s) (ho : s'.os = s.os) (u : Un (frs X.stack) ch H H' s.heap s'.heap) (hok : HOk X.prog X.w H' s'.heap) (hg : AllBare s'.gens)
    (hch : ∀ b ∈ ch, (b ∈ X.ex ∨ X.s₀.heap.objs.size ≤ b) ∧ b ≠ X.env.locals ∧ (∀ x c, X.env.cells.lookup x = some c → c ≠ b) ∧ ∀ p ∈ X.pn ++ pins, p.1 ≠ b) : Inv X pins σ H' s' := by
  obtain ⟨h', g', d', t', o'⟩ := s'
  have e : o' = s.os := ho
  subst e
  exact I.call (g' := g') (t' := t') (d' := d') u hok hg hch
end
abbrev XK := Value → Option Addr → Hp → Prop
abbrev St := List (Option V)
abbrev VK := V → Hp → Prop
abbrev TE := St → Hp → VK → Prop
abbrev TT := St → Hp → (Bool → Hp → Prop) → Prop
abbrev TA := St → Hp → (List V → Hp → Prop) → Prop
structure Ends where
  nx : St → Hp → Prop
  rt : VK
  bk : St → Hp → Prop := fun _ _ => False
  ct : St → Hp → Prop := fun _ _ => False
abbrev TS := Ends → St → Hp → Prop
def EP (X : Cx) (pins : List (Addr × Obj)) (σ : St) (Q : VK) (u : Value) (s' : Shared) : Prop := ∃ v H', Inv X pins σ H' s' ∧ RelV v u ∧ Q v H'
def TP (X : Cx) (pins : List (Addr × Obj)) (σ : St) (Q : Bool → Hp → Prop) (b : Bool) (s' : Shared) : Prop := ∃ H', Inv X pins σ H' s' ∧ Q b H'
def AP (X : Cx) (pins : List (Addr × Obj)) (σ : St) (Q : List V → Hp → Prop) (us : List Value) (s' : Shared) : Prop := ∃ vs H', Inv X pins σ H' s' ∧ Vals vs us ∧ Q vs H'
def SP (X : Cx) (pins : List (Addr × Obj)) (D : Ends) (f : Flow) (s' : Shared) : Prop :=
  match f with
  | .next => ∃ σ' H', Inv X pins σ' H' s' ∧ D.nx σ' H'
  | .brk => ∃ σ' H', Inv X pins σ' H' s' ∧ D.bk σ' H'
  | .cont => ∃ σ' H', Inv X pins σ' H' s' ∧ D.ct σ' H'
  | .ret u => ∃ v σ' H', Inv X pins σ' H' s' ∧ RelV v u ∧ D.rt v H'
def PE (X : Cx) (e : Expr) (t : TE) : Prop :=
  ∀ (pins : List (Addr × Obj)) (s : Shared) (σ : St) (H : Hp) (Q : VK), Inv X pins σ H s → t σ H Q → wpAny (model X.prog X.w) X.A (eval e X.env) (EP X pins σ Q) X.xe s
def PT (X : Cx) (e : Expr) (t : TT) : Prop :=
  ∀ (pins : List (Addr × Obj)) (s : Shared) (σ : St) (H : Hp) (Q : Bool → Hp → Prop), Inv X pins σ H s → t σ H Q → wpAny (model X.prog X.w) X.A (isTrue e X.env (eval e X.env)) (TP X pins σ Q) X.xe s
def PW (X : Cx) (e : Expr) (t : TT) : Prop :=
  ∀ (whole : Sem Value) (pins : List (Addr × Obj)) (s : Shared) (σ : St) (H : Hp) (Q : Bool → Hp → Prop), Inv X pins σ H s → t σ H Q → wpAny (model X.prog X.w) X.A (isTrue e X.env whole) (TP X pins σ Q) X.xe s
theorem PW.pt {X : Cx} {e : Expr} {t : TT} (h : PW X e t) : PT X e t := h _
def PA (X : Cx) (es : List Expr) (t : TA) : Prop :=
  ∀ (pos : Pos) (pins : List (Addr × Obj)) (s : Shared) (σ : St) (H : Hp) (Q : List V → Hp → Prop), Inv X pins σ H s → t σ H Q → wpAny (model X.prog X.w) X.A (spliced (backTo pos (starEach es X.env))) (AP X pins σ Q) X.xe s
def PS (X : Cx) (st : Stmt) (t : TS) : Prop :=
  ∀ (pins : List (Addr × Obj)) (s : Shared) (σ : St) (H : Hp) (D : Ends), Inv X pins σ H s → t D σ H → wpAny (model X.prog X.w) X.A (exec st X.env) (SP X pins D) X.xe s
def PSs (X : Cx) (st : List Stmt) (t : TS) : Prop :=
  ∀ (pins : List (Addr × Obj)) (s : Shared) (σ : St) (H : Hp) (D : Ends), Inv X pins σ H s → t D σ H → wpAny (model X.prog X.w) X.A (execs st X.env) (SP X pins D) X.xe s
theorem thn {α : Type} {t : Sem α} {Q Q' : α → Shared → Prop} {M : Model} {A : Around} {E : Value → Shared → Prop} {s : Shared} (h : wpAny M A t Q E s) (hQ : ∀ a s, Q a s → Q' a s) : wpAny M A t Q' E s := wpAny_mono h hQ fun _ _ x => x
end L2
namespace L2
open PySem PySem.Spec PyProof.Rows
section
variable {X : Cx}
def tVar (i : Nat) : TE := fun σ H Q => ∃ v, σ[i]? = some (some v) ∧ Q v H
def tC (v : V) : TE := fun _ H Q => Q v H
theorem pe_var {i : Nat} {x : Str} {pos : Pos} (hN : X.N[i]? = some x) (hv : Vis X.env.scope x) (hd : (x == ("__debug__" : Str)) = false := by decide) (hcd : (x == ("__classdict__" : Str)) = false := by decide) : PE X (.Name x pos) (tVar i) := by
  intro pins s σ H Q I h
  obtain ⟨v, e, h⟩ := h
  obtain ⟨m, hn, hl⟩ := I.loc
  obtain ⟨u, r, l⟩ := hl i x v hN e hv
  have fin : EP X pins σ Q u s := ⟨v, H, I, r, h⟩
  rcases l with ⟨hk, hm⟩ | ⟨hk, c, hc, hcell⟩
  · exact wpAny_Name (wpAny_loadName_local I.ok.kind hk hn hm fin) hd
  · rcases hk with hk | hk
    · exact wpAny_Name (wpAny_loadName_cell I.ok.kind hk hc hcell fin) hd
    · exact wpAny_Name (wpAny_loadName_free I.ok.kind hk hc hcell fin hcd) hd
theorem pe_int {i j pos} : PE X (.Constant (.int i) j pos) (tC (.int i)) := fun _ _ _ H _ I h => wpAny_Constant_int ⟨.int i, H, I.tok _, ⟨_, rfl⟩, h⟩
theorem pe_bl {b j pos} : PE X (.Constant (.bool b) j pos) (tC (.bl b)) := fun _ _ _ H _ I h => Constant_bool ⟨.bl b, H, I, rfl, h⟩
theorem pe_non {j pos} : PE X (.Constant .none j pos) (tC .non) := fun _ _ _ H _ I h => Constant_none ⟨.non, H, I, rfl, h⟩
theorem pe_str {x j pos} : PE X (.Constant (.str x) j pos) (tC (.str x)) := fun _ _ _ H _ I h => Calls.Constant_str ⟨.str x, H, I.tok _, ⟨_, rfl⟩, h⟩
def Gl (X : Cx) (x : Str) : Prop := X.env.kindOf x = some .globalImplicit
theorem ld_glob {E : Value → Shared → Prop} {pins : List (Addr × Obj)} {s : Shared} {σ : St} {H : Hp} {x : Str} {u : Value} {pos : Pos} {Q : Value → Shared → Prop} (I : Inv X pins σ H s) (hg : Gl X x) (hm : X.mg x = some u) (h : Q u s)
    (hd : (x == ("__debug__" : Str)) = false := by decide) : wpAny (model X.prog X.w) X.A (eval (.Name x pos) X.env) Q E s :=
  Calls.Name_function_global I.ok.kind hg (Calls.loadGlobal_global (by rw [I.ok.glob]; exact I.mod.glob.keeps I.bk) hm h) hd
theorem ld_blt {E : Value → Shared → Prop} {pins : List (Addr × Obj)} {s : Shared} {σ : St} {H : Hp} {x : Str} {u : Value} {pos : Pos} {Q : Value → Shared → Prop} (I : Inv X pins σ H s) (hg : Gl X x) (hm : X.mg x = none) (hv : bootBuiltins x = some u) (h : Q u s)
    (hn : x ≠ "__name__" := by decide) (hd : (x == ("__debug__" : Str)) = false := by decide) : wpAny (model X.prog X.w) X.A (eval (.Name x pos) X.env) Q E s := by
  obtain ⟨mb, h1, h2⟩ := I.mod.blt
  exact Calls.Name_function_global I.ok.kind hg (Calls.loadGlobal_builtin (by rw [I.ok.glob]; exact I.mod.glob.keeps I.bk) hm (by rw [I.ok.blt]; exact h1.keeps I.bk) ((h2 x hn).trans hv) h) hd
theorem pe_bltn {x : Str} {v : V} {u : Value} {pos : Pos} (hg : Gl X x) (hm : X.mg x = none) (hv : bootBuiltins x = some u) (r : RelV v u) (hn : x ≠ "__name__" := by decide) (hd : (x == ("__debug__" : Str)) = false := by decide) : PE X (.Name x pos) (tC v) :=
  fun _ _ _ H _ I h => ld_blt I hg hm hv ⟨v, H, I, r, h⟩ hn hd
variable {a b : Expr} {ta tb : TE} {pos : Pos}
def PC (X : Cx) (op : CmpOp) (a b : Expr) (t : TE) : Prop :=
  ∀ (pins : List (Addr × Obj)) (s : Shared) (σ : St) (H : Hp) (Q : VK), Inv X pins σ H s → t σ H Q →
    wpAny (model X.prog X.w) X.A (eval a X.env) (fun v s₁ => wpAny (model X.prog X.w) X.A (eval b X.env) (fun u s₂ => wpAny (model X.prog X.w) X.A (compareOp op v u) (EP X pins σ Q) X.xe s₂) X.xe s₁) X.xe s
theorem nobehind (b : Expr) {op : CmpOp} (h : op ≠ .In) (h2 : op ≠ .NotIn) : behindInMarks op b = false := by
  have e1 : (op == CmpOp.In) = false := by cases op <;> first | rfl | exact absurd rfl h
  have e2 : (op == CmpOp.NotIn) = false := by cases op <;> first | rfl | exact absurd rfl h2
  cases b <;> simp [behindInMarks, e1, e2]
def tB (t : TE) : TT := fun σ H Q => t σ H fun x H1 => ∃ c, x = .bl c ∧ Q c H1
theorem pt_cmp {op : CmpOp} {t : TE} (h : PC X op a b t) (h1 : behindInMarks op b = false := by first | exact nobehind _ (by decide) (by decide) | rfl) : PT X (.Compare a [op] [b] pos) (tB t) := by
  intro pins s σ H Q I hw
  refine wpAny_isTrue_Compare1 (thn (h pins s σ H _ I hw) fun v s1 h1 => thn h1 fun u s2 h2 => thn h2 fun c s3 ⟨x, H1, I1, r1, q1⟩ => ?_) h1
  obtain ⟨d, rfl, q⟩ := q1
  cases r1
  exact wpAny_truthy_bool ⟨H1, I1, q⟩
variable {tA tB' : TT} {rest : List Expr}
def tAnd (t u : TT) : TT := fun σ H Q => t σ H fun c H1 => if c = true then u σ H1 Q else Q false H1
def tOr (t u : TT) : TT := fun σ H Q => t σ H fun c H1 => if c = true then Q true H1 else u σ H1 Q
def tNot (t : TT) : TT := fun σ H Q => t σ H fun c H1 => Q (!c) H1
theorem pw_and1 (ha : PT X a tA) : PW X (.BoolOp .And [a] pos) tA := by
  intro wh pins s σ H Q I h
  refine isTrue_and (thn (ha pins s σ H Q I h) fun c s1 e => ?_)
  cases c with
  | true => exact isTrue_and_nil e
  | false => exact e
theorem pw_or1 (ha : PT X a tA) : PW X (.BoolOp .Or [a] pos) tA := by
  intro wh pins s σ H Q I h
  refine isTrue_or (thn (ha pins s σ H Q I h) fun c s1 e => ?_)
  cases c with
  | false => exact isTrue_or_nil e
  | true => exact e
theorem pw_and (ha : PT X a tA) (hb : PW X (.BoolOp .And (b :: rest) pos) tB') : PW X (.BoolOp .And (a :: b :: rest) pos) (tAnd tA tB') := by
  intro wh pins s σ H Q I h
  refine isTrue_and (thn (ha pins s σ H _ I h) fun c s1 ⟨H1, I1, q1⟩ => ?_)
  cases c with
  | true => exact hb wh pins s1 σ H1 Q I1 q1
  | false => exact ⟨H1, I1, q1⟩
theorem pw_or (ha : PT X a tA) (hb : PW X (.BoolOp .Or (b :: rest) pos) tB') : PW X (.BoolOp .Or (a :: b :: rest) pos) (tOr tA tB') := by
  intro wh pins s σ H Q I h
  refine isTrue_or (thn (ha pins s σ H _ I h) fun c s1 ⟨H1, I1, q1⟩ => ?_)
  cases c with
  | true => exact ⟨H1, I1, q1⟩
  | false => exact hb wh pins s1 σ H1 Q I1 q1
theorem pt_not (ha : PT X a tA) : PT X (.UnaryOp .Not a pos) (tNot tA) := by
  intro pins s σ H Q I h
  exact isTrue_not (ha pins s σ H (fun c H1 => Q (!c) H1) I h)
def tAndV (ta tb : TE) : TE := fun σ H Q => ta σ H fun x H1 => ∃ c, x = .bl c ∧ if c = true then tb σ H1 Q else Q (.bl false) H1
def tOrV (ta tb : TE) : TE := fun σ H Q => ta σ H fun x H1 => ∃ c, x = .bl c ∧ if c = true then Q (.bl true) H1 else tb σ H1 Q
theorem pe_one {op} {t : TE} (h : PE X a t) : PE X (.BoolOp op [a] pos) t := fun pins s σ H Q I hw => BoolOp_one (h pins s σ H Q I hw)
theorem pe_and (ha : PE X a ta) (hb : PE X (.BoolOp .And (b :: rest) pos) tb) : PE X (.BoolOp .And (a :: b :: rest) pos) (tAndV ta tb) := by
  intro pins s σ H Q I h
  refine BoolOp_and (thn (ha pins s σ H _ I h) fun v s1 ⟨x, H1, I1, r1, q1⟩ => ?_)
  obtain ⟨c, rfl, q1⟩ := q1
  cases r1
  refine wpAny_truthy_bool ?_
  cases c with
  | true => exact hb pins s1 σ H1 Q I1 q1
  | false => exact ⟨.bl false, H1, I1, rfl, q1⟩
theorem pe_or (ha : PE X a ta) (hb : PE X (.BoolOp .Or (b :: rest) pos) tb) : PE X (.BoolOp .Or (a :: b :: rest) pos) (tOrV ta tb) := by
  intro pins s σ H Q I h
  refine BoolOp_or (thn (ha pins s σ H _ I h) fun v s1 ⟨x, H1, I1, r1, q1⟩ => ?_)
  obtain ⟨c, rfl, q1⟩ := q1
  cases r1
  refine wpAny_truthy_bool ?_
  cases c with
  | false => exact hb pins s1 σ H1 Q I1 q1
  | true => exact ⟨.bl true, H1, I1, rfl, q1⟩
def tIf (t : TT) (ta tb : TE) : TE := fun σ H Q => t σ H fun c H1 => if c = true then ta σ H1 Q else tb σ H1 Q
theorem pe_ifExp {c : Expr} (hc : PT X c tA) (ha : PE X a ta) (hb : PE X b tb) : PE X (.IfExp c a b pos) (tIf tA ta tb) := by
  intro pins s σ H Q I h
  refine wpAny_IfExp (thn (hc pins s σ H _ I h) fun d s1 ⟨H1, I1, q1⟩ => ?_)
  cases d with
  | true => exact ha pins s1 σ H1 Q I1 q1
  | false => exact hb pins s1 σ H1 Q I1 q1
end
end L2
namespace L2
open PySem PySem.Spec PyProof.Rows
def SqL (K : PySem.W.Frag) (H : Hp) (a : Addr) (xs : List V) : Prop :=
  Rd H a (.lst xs) ∨
    ∃ (o : Obj) (its : Array Value) (n : Nat), K.lookup a = some o ∧ o.cls = .type "list" ∧ o.dict = none ∧ o.data = .seq its n ∧ its.size ≤ sizeLine ∧ Vals xs its.toList
def SqT (K : PySem.W.Frag) (H : Hp) (a : Addr) (xs : List V) : Prop :=
  Rd H a (.tup xs) ∨
    ∃ (o : Obj) (its : Array Value) (n : Nat), K.lookup a = some o ∧ o.cls = .type "tuple" ∧ o.data = .seq its n ∧ its.size ≤ sizeLine ∧ Vals xs its.toList
def absV : Value → Option V
  | .none => some .non
  | .bool b => some (.bl b)
  | .int i _ => some (.int i)
  | .str x _ => some (.str x)
  | .bytes b _ => some (.byt b)
  | .float b _ => some (.flt b)
  | .ref a => some (.ref a)
  | .type n => some (.ty n)
  | _ => none
theorem RelV.abs {x : V} {u : Value} (r : RelV x u) : absV u = some x := by
  cases x with
  | non => cases r; rfl
  | bl _ => cases r; rfl
  | int _ => obtain ⟨t, rfl⟩ := r; rfl
  | str _ => obtain ⟨t, rfl⟩ := r; rfl
  | byt _ => obtain ⟨t, rfl⟩ := r; rfl
  | flt _ => obtain ⟨t, rfl⟩ := r; rfl
  | ref _ => cases r; rfl
  | ty _ => cases r; rfl
theorem RelV.inj {x y : V} {u : Value} (r : RelV x u) (q : RelV y u) : x = y := Option.some.inj (r.abs.symm.trans q.abs)
theorem Vals.inj : ∀ {xs ys : List V} {us : List Value}, Vals xs us → Vals ys us → xs = ys
  | _, _, _, .nil, .nil => rfl
  | _, _, _, .cons r t, .cons r' t' => by rw [r.inj r', Vals.inj t t']
section
variable {X : Cx} {pins : List (Addr × Obj)} {σ : St} {H : Hp} {s : Shared} {a : Addr} {xs ys : List V}
theorem SqL.of {K : PySem.W.Frag} (h : H a = some (.lst xs)) : SqL K H a xs := .inl (.inl h)
theorem SqT.of {K : PySem.W.Frag} (h : H a = some (.tup xs)) : SqT K H a xs := .inl (.inl h)
theorem Inv.list (I : Inv X pins σ H s) (h : SqL X.K H a xs) : ∃ its : List Value, Vals xs its ∧ PlainL s.heap a its.toArray ∧ xs.length ≤ sizeLine := by
  rcases h with h | ⟨o, its, n, hk, hc, hd, hs, hz, r⟩
  · obtain ⟨z, its, n, r, e⟩ := h.ok I.hok
    exact ⟨its, r, ⟨_, n, e, rfl, rfl, rfl⟩, z⟩
  · refine ⟨its.toList, r, ⟨o, n, I.kIn a o hk, hc, hd, by simpa using hs⟩, ?_⟩
    have e := r.length
    simp only [Array.length_toList] at e
    omega
theorem Inv.tuple (I : Inv X pins σ H s) (h : SqT X.K H a xs) : ∃ its : List Value, Vals xs its ∧ IsTup s.heap a its.toArray ∧ xs.length ≤ sizeLine := by
  rcases h with h | ⟨o, its, n, hk, hc, hs, hz, r⟩
  · obtain ⟨z, its, r, p⟩ := h.ok I.hok
    exact ⟨its, r, p, z⟩
  · refine ⟨its.toList, r, ⟨o, I.kIn a o hk, hc, n, by simpa using hs⟩, ?_⟩
    have e := r.length
    simp only [Array.length_toList] at e
    omega
theorem Inv.list_inj (I : Inv X pins σ H s) (h : SqL X.K H a xs) (h' : SqL X.K H a ys) : xs = ys := by
  obtain ⟨its, r, ⟨o, n, e, _, _, d⟩, _⟩ := I.list h
  obtain ⟨its', r', ⟨o', n', e', _, _, d'⟩, _⟩ := I.list h'
  rw [e] at e'; cases e'
  rw [d] at d'
  injection d' with d1 _
  have : its = its' := by simpa using congrArg Array.toList d1
  subst this
  exact r.inj r'
theorem Inv.tuple_inj (I : Inv X pins σ H s) (h : SqT X.K H a xs) (h' : SqT X.K H a ys) : xs = ys := by
  obtain ⟨its, r, ⟨o, e, _, n, d⟩, _⟩ := I.tuple h
  obtain ⟨its', r', ⟨o', e', _, n', d'⟩, _⟩ := I.tuple h'
  rw [e] at e'; cases e'
  rw [d] at d'
  injection d' with d1 _
  have : its = its' := by simpa using congrArg Array.toList d1
  subst this
  exact r.inj r'
end
abbrev Cx.wish (X : Cx) (E : Value → Shared → Prop) : Cx := { X with xe := E }
abbrev Cx.nox (X : Cx) : Cx := X.wish fun _ _ => False
theorem Cx.Ok.wish {X : Cx} (ok : X.Ok) (E : Value → Shared → Prop) : (X.wish E).Ok :=
  ⟨ok.mod, ok.kind, ok.glob, ok.blt, ok.above, ok.inj, ok.has, ok.cab, ok.hd, ok.frames, ok.stk, ok.exf, ok.bs, ok.bsz, ok.noex, ok.exfs, ok.funs, ok.frf⟩
theorem Cx.Ok.unwish {X : Cx} {E : Value → Shared → Prop} (ok : (X.wish E).Ok) : X.Ok :=
  ⟨ok.mod, ok.kind, ok.glob, ok.blt, ok.above, ok.inj, ok.has, ok.cab, ok.hd, ok.frames, ok.stk, ok.exf, ok.bs, ok.bsz, ok.noex, ok.exfs, ok.funs, ok.frf⟩
section
variable {X : Cx} {pins : List (Addr × Obj)} {σ : St} {H : Hp} {s : Shared} {E : Value → Shared → Prop}
theorem Inv.wish (I : Inv X pins σ H s) (E : Value → Shared → Prop) : Inv (X.wish E) pins σ H s := ⟨I.ok.wish E, I.os, I.bare, I.base, I.loc, I.cell, I.free, I.freeC, I.pin, I.hok, I.len⟩
theorem Inv.unwish (I : Inv (X.wish E) pins σ H s) : Inv X pins σ H s := ⟨I.ok.unwish, I.os, I.bare, I.base, I.loc, I.cell, I.free, I.freeC, I.pin, I.hok, I.len⟩
theorem SP.unwish {D : Ends} {f : Flow} {s' : Shared} (h : SP (X.wish E) pins D f s') : SP X pins D f s' := by
  cases f with
  | next => obtain ⟨σ', H', I, q⟩ := h; exact ⟨σ', H', I.unwish, q⟩
  | brk => obtain ⟨σ', H', I, q⟩ := h; exact ⟨σ', H', I.unwish, q⟩
  | cont => obtain ⟨σ', H', I, q⟩ := h; exact ⟨σ', H', I.unwish, q⟩
  | ret u => obtain ⟨v, σ', H', I, r, q⟩ := h; exact ⟨v, σ', H', I.unwish, r, q⟩
theorem PE.nox {e : Expr} {t : TE} (h : PE X.nox e t) : PE X e t := fun pins s σ H Q I hw =>
  wpAny_mono (h pins s σ H Q (I.wish _) hw) (fun _ _ ⟨v, H', I', r, q⟩ => ⟨v, H', I'.unwish, r, q⟩) fun _ _ z => False.elim z
theorem PT.nox {e : Expr} {t : TT} (h : PT X.nox e t) : PT X e t := fun pins s σ H Q I hw =>
  wpAny_mono (h pins s σ H Q (I.wish _) hw) (fun _ _ ⟨H', I', q⟩ => ⟨H', I'.unwish, q⟩) fun _ _ z => False.elim z
theorem PSs.nox {st : List Stmt} {t : TS} (h : PSs X.nox st t) : PSs X st t := fun pins s σ H D I hw =>
  wpAny_mono (h pins s σ H D (I.wish _) hw) (fun _ _ q => q.unwish) fun _ _ z => False.elim z
end
section
variable {X : Cx} {st : Stmt} {rest : List Stmt} {t u : TS} {e : Expr} {te : TE} {pos : Pos}
def tNext : TS := fun D σ H => D.nx σ H
def tSeq (t u : TS) : TS := fun D σ H => t { D with nx := u D } σ H
theorem pss_nil : PSs X [] tNext := fun _ _ σ H _ I h => wpAny_execs_nil ⟨σ, H, I, h⟩
theorem pss_cons (h1 : PS X st t) (h2 : PSs X rest u) : PSs X (st :: rest) (tSeq t u) := by
  intro pins s σ H D I h
  refine wpAny_execs_cons (thn (h1 pins s σ H { D with nx := u D } I h) fun f s1 q => ?_)
  cases f with
  | next =>
    obtain ⟨σ', H', I', q⟩ := q
    exact h2 pins s1 σ' H' D I' q
  | ret v => exact q
  | brk => exact q
  | cont => exact q
theorem pss_one (h1 : PS X st t) : PSs X [st] t := by
  intro pins s σ H D I h
  refine wpAny_execs_cons (thn (h1 pins s σ H D I h) fun f s1 q => ?_)
  cases f with
  | next => exact wpAny_execs_nil q
  | ret v => exact q
  | brk => exact q
  | cont => exact q
theorem Inv.quiet {pins : List (Addr × Obj)} {σ : St} {H : Hp} {s : Shared} (I : Inv X pins σ H s) : interactive X.env = false := by simp [interactive, I.ok.kind]
def tDrop (te : TE) : TS := fun D σ H => te σ H fun _ H1 => D.nx σ H1
theorem ps_expr (he : PE X e te) (hs : swapsWith e none pos.line X.env = pure false := by rfl) : PS X (.Expr e pos) (tDrop te) := by
  intro pins s σ H D I h
  exact wpAny_Expr_any (thn (he pins s σ H _ I h) fun v s1 ⟨x, H1, I1, r1, q1⟩ => ⟨σ, H1, I1, q1⟩) I.quiet hs
def tRet (te : TE) : TS := fun D σ H => te σ H D.rt
theorem ps_ret (he : PE X e te) : PS X (.Return (some e) pos) (tRet te) := by
  intro pins s σ H D I h
  exact wpAny_Return_some (thn (he pins s σ H _ I h) fun v s1 ⟨x, H1, I1, r1, q1⟩ => ⟨x, σ, H1, I1, r1, q1⟩)
def tIfS (c : TT) (t u : TS) : TS := fun D σ H => c σ H fun b H1 => if b = true then t D σ H1 else u D σ H1
theorem ps_if {c : Expr} {a b : List Stmt} {tc : TT} (hc : PT X c tc) (ha : PSs X a t) (hb : PSs X b u) : PS X (.If c a b pos) (tIfS tc t u) := by
  intro pins s σ H D I h
  refine wpAny_If (thn (hc pins s σ H _ I h) fun d s1 ⟨H1, I1, q1⟩ => ?_)
  cases d with
  | true => exact ha pins s1 σ H1 D I1 q1
  | false => exact hb pins s1 σ H1 D I1 q1
end
abbrev TG := V → St → Hp → (St → Hp → Prop) → Prop
abbrev TGs := List V → St → Hp → (St → Hp → Prop) → Prop
def PG (X : Cx) (target : Expr) (t : TG) : Prop :=
  ∀ (pins : List (Addr × Obj)) (s : Shared) (σ : St) (H : Hp) (v : V) (u : Value) (Q : St → Hp → Prop), Inv X pins σ H s → RelV v u → t v σ H Q →
    wpAny (model X.prog X.w) X.A (assign target X.env u) (fun _ s' => ∃ σ' H', Inv X pins σ' H' s' ∧ Q σ' H') X.xe s
def PGs (X : Cx) (ts : List Expr) (t : TGs) : Prop :=
  ∀ (pins : List (Addr × Obj)) (s : Shared) (σ : St) (H : Hp) (vs : List V) (us : List Value) (Q : St → Hp → Prop), Inv X pins σ H s → Vals vs us → t vs σ H Q →
    wpAny (model X.prog X.w) X.A (assignInOrder ((assignEach ts X.env).map (·.2)) us) (fun _ s' => ∃ σ' H', Inv X pins σ' H' s' ∧ Q σ' H') X.xe s
abbrev TSet := V → V → V → Hp → (Hp → Prop) → Prop
def PSet (X : Cx) (t : TSet) : Prop :=
  ∀ (pins : List (Addr × Obj)) (s : Shared) (σ : St) (H : Hp) (o i v : V) (ov iv u : Value) (Q : Hp → Prop), Inv X pins σ H s → RelV o ov → RelV i iv → RelV v u → t o i v H Q →
    wpAny (model X.prog X.w) X.A (setItem ov iv u) (fun _ s' => ∃ H', Inv X pins σ H' s' ∧ Q H') X.xe s
section
variable {X : Cx} {pos : Pos}
def gName (i : Nat) : TG := fun v σ H Q => Q (σ.set i (some v)) H
theorem pg_name {i : Nat} {x : Str} (hN : X.N.Nodup) (hi : X.N[i]? = some x) (hx : Loc X.env.scope x) (hf : X.fn x = true ∨ X.env.scope.names.lookup x = some .local := by first | exact .inl rfl | exact .inr rfl | assumption) : PG X (.Name x pos) (gName i) := by
  intro pins s σ H v u Q I r h
  exact wpAny_assign_Name (store_ok I hN hi hx r (fun s' I' => ⟨_, H, I', h⟩) hf)
def gNil : TGs := fun vs σ H Q => vs = [] ∧ Q σ H
def gCons (t : TG) (u : TGs) : TGs := fun vs σ H Q => ∃ v r, vs = v :: r ∧ t v σ H fun σ' H' => u r σ' H' Q
theorem pgs_nil : PGs X [] gNil := by
  intro pins s σ H vs us Q I r h
  obtain ⟨e, h⟩ := h
  subst e
  cases r
  exact assignInOrder_nil ⟨σ, H, I, h⟩
theorem pgs_cons {e : Expr} {es : List Expr} {t : TG} {u : TGs} (h1 : PG X e t) (h2 : PGs X es u)
    (hs : (assignEach (e :: es) X.env).map (·.2) = assign e X.env :: (assignEach es X.env).map (·.2) := by rfl) : PGs X (e :: es) (gCons t u) := by
  intro pins s σ H vs us Q I r h
  obtain ⟨v, vr, e1, h⟩ := h
  subst e1
  cases r with
  | cons r rr =>
    rw [hs]
    refine assignInOrder_cons (thn (h1 pins s σ H _ _ _ I r h) fun _ s1 ⟨σ1, H1, I1, q1⟩ => ?_)
    exact h2 pins s1 σ1 H1 _ _ Q I1 rr q1
def gTup (K : PySem.W.Frag) (n : Nat) (t : TGs) : TG := fun v σ H Q => ∃ a xs, v = .ref a ∧ SqT K H a xs ∧ xs.length = n ∧ t xs σ H Q
theorem pg_tup {es : List Expr} {k : Nat} {t : TGs} {n : Nat} (hc : X.calm = true) (h : PGs X es t)
    (hn : (assignEach es X.env).length = n := by rfl) (hst : (assignEach es X.env).findIdx? (·.1) = none := by rfl) : PG X (.Tuple es k pos) (gTup X.K n t) := by
  intro pins s σ H v u Q I r hw
  obtain ⟨a, xs, e1, hq, hl, hw⟩ := hw
  subst e1
  cases r
  obtain ⟨its, rv, ht, hz⟩ := I.tuple hq
  refine assign_Tuple_tuple (I.ok.hd hc) ht (by simp [hn, ← hl, rv.length]) hst fun h' hx => ?_
  have I1 : Inv X pins σ H { s with heap := h' } := I.kept (t' := s.toks) fun b o e => hx b o (Nat.ne_of_lt (Heap.lt_size e)) e
  exact h pins _ σ H xs _ Q I1 (by simpa using rv) hw
def gSub (to ti : TE) (t : TSet) : TG := fun v σ H Q => to σ H fun o H1 => ti σ H1 fun i H2 => t o i v H2 fun H3 => Q σ H3
theorem pg_sub {o i : Expr} {to ti : TE} {t : TSet} (ho : PE X o to) (hi : PE X i ti) (hs : PSet X t)
    (ha : ∀ v, assign (.Subscript o i pos) X.env v = (do
      let ov ← holding [v] (eval o X.env)
      let iv ← holding [v, ov] (eval i X.env)
      standAt pos
      holding [v, ov, iv] (setItem ov iv v)
      release [v, ov, iv] []) := by intro _; rfl) : PG X (.Subscript o i pos) (gSub to ti t) := by
  intro pins s σ H v u Q I r h
  rw [ha]
  refine wpAny_bind (wpAny_holding (thn (ho pins s σ H _ I h) fun ov s1 ⟨x, H1, I1, r1, q1⟩ => ?_))
  refine wpAny_bind (wpAny_holding (thn (hi pins s1 σ H1 _ I1 q1) fun iv s2 ⟨y, H2, I2, r2, q2⟩ => ?_))
  refine wpAny_bind (wpAny_standAt (wpAny_bind (wpAny_holding (thn (hs pins s2 σ H2 x y v ov iv u _ I2 r1 r2 r q2) fun _ s3 ⟨H3, I3, q3⟩ => ?_))))
  exact wpAny_release ⟨σ, H3, I3, q3⟩
def tAsg (te : TE) (g : TG) : TS := fun D σ H => te σ H fun x H1 => g x σ H1 D.nx
theorem ps_asg {tg e : Expr} {te : TE} {g : TG} (he : PE X e te) (hg : PG X tg g) (hs : swapsWithSole [tg] e pos.line X.env = pure false := by rfl) (hw : swappedStores [tg] e X.env = pure none := by rfl)
    (h1 : (assignEach [tg] X.env).map (·.2) = [assign tg X.env] := by rfl) : PS X (.Assign [tg] e pos) (tAsg te g) := by
  intro pins s σ H D I h
  refine wpAny_Assign_stores (thn (he pins s σ H _ I h) fun v s1 ⟨x, H1, I1, r1, q1⟩ => ?_) hs hw
  rw [h1]
  exact thn (hg pins s1 σ H1 x v _ I1 r1 q1) fun _ s2 q => q
theorem ps_set {i : Nat} {x : Str} {e : Expr} {te : TE} {pos' : Pos} (hN : X.N.Nodup) (hi : X.N[i]? = some x) (hx : Loc X.env.scope x) (he : PE X e te) (hs : swapsWith e (some (.Name x pos')) pos.line X.env = pure false := by rfl) (hf : X.fn x = true ∨ X.env.scope.names.lookup x = some .local := by first | exact .inl rfl | exact .inr rfl | assumption) :
    PS X (.Assign [.Name x pos'] e pos) (tAsg te (gName i)) := by
  intro pins s σ H D I h
  refine wpAny_Assign_Name (thn (he pins s σ H _ I h) fun v s1 ⟨y, H1, I1, r1, q1⟩ => ?_) hs
  exact store_ok I1 hN hi hx r1 (fun s2 I2 => ⟨_, H1, I2, q1⟩) hf
end
section
variable {X : Cx} {pos : Pos}
def tWhile (c : TT) (tb : TS) : TS := fun D σ H => ∃ W : Nat → St → Hp → Prop, (∃ m, W m σ H) ∧ ∀ m σ H, W m σ H →
  c σ H fun b H1 => if b = true then ∃ N : St → Hp → Prop, (∀ σ' H', N σ' H' → ∃ m', m' < m ∧ W m' σ' H') ∧ tb { D with nx := N, ct := N, bk := D.nx } σ H1 else D.nx σ H1
theorem ps_while {c : Expr} {body : List Stmt} {tc : TT} {tb : TS} (hp : PassesOwn (model X.prog X.w) X.A X.env X.xe) (hc : PT X c tc) (hb : PSs X body tb) : PS X (.While c body [] pos) (tWhile tc tb) := by
  intro pins s σ H D I h
  obtain ⟨W, ⟨m0, w0⟩, turn⟩ := h
  refine wpAny_While (codeAny_whileLoop (fun n s' => ∃ σ' H', Inv X pins σ' H' s' ∧ W n σ' H') ?_ m0 ⟨σ, H, I, w0⟩)
  rintro n s1 ⟨σ1, H1, I1, w1⟩
  refine wpAny_passesOwn hp (thn (hc pins s1 σ1 H1 _ I1 (turn n σ1 H1 w1)) fun b s2 ⟨H2, I2, q2⟩ => ?_)
  cases b with
  | true =>
    obtain ⟨N, hN, q2⟩ := q2
    rw [if_pos rfl]
    refine wpAny_passesOwn hp (thn (hb pins s2 σ1 H2 _ I2 q2) fun f s3 q3 => ?_)
    cases f with
    | next =>
      obtain ⟨σ3, H3, I3, n3⟩ := q3
      obtain ⟨m', hm, w3⟩ := hN σ3 H3 n3
      exact ⟨m', hm, σ3, H3, I3, w3⟩
    | cont =>
      obtain ⟨σ3, H3, I3, n3⟩ := q3
      obtain ⟨m', hm, w3⟩ := hN σ3 H3 n3
      exact ⟨m', hm, σ3, H3, I3, w3⟩
    | brk => exact q3
    | ret v => exact q3
  | false =>
    rw [if_neg Bool.false_ne_true]
    exact wpAny_execs_nil ⟨σ1, H2, I2, q2⟩
end
structure It where
  go : Nat → Hp → Prop
  yld : Nat → Hp → V → Hp → Prop
  stop : Nat → Hp → Prop
def FpOk (X : Cx) (pins : List (Addr × Obj)) (H : Hp) (b : Addr) : Prop :=
  H b = none ∧ b ≠ X.env.locals ∧ b ∉ X.fs ∧ (b ∈ X.ex ∨ X.s₀.heap.objs.size ≤ b) ∧ (∀ x c, X.env.cells.lookup x = some c → c ≠ b) ∧ ∀ p ∈ X.pn ++ pins, p.1 ≠ b
theorem Inv.fpOk {X : Cx} {pins : List (Addr × Obj)} {σ : St} {H H' : Hp} {s : Shared} {b : Addr} (I : Inv X pins σ H s) (hb : s.heap.objs.size ≤ b) (hn : H' b = none) : FpOk X pins H' b := by
  refine ⟨hn, Nat.ne_of_gt (Nat.lt_of_lt_of_le I.lt hb), I.nofs hb, .inr (Nat.le_trans I.sz hb), fun x c e z => ?_, fun p hp z => ?_⟩
  · obtain ⟨v, q⟩ := I.cell x c e
    exact absurd (Nat.lt_of_lt_of_le q.lt (by rw [z]; exact hb)) (Nat.lt_irrefl _)
  · exact absurd (Nat.lt_of_lt_of_le (Heap.lt_size (I.pin p hp).1) (by rw [z]; exact hb)) (Nat.lt_irrefl _)
structure Turn (P : Program) (w : World) (K : PySem.W.Frag) (tg : Expr) (J : It) (fp : List Addr) (it : Addr) (tn : Nat → Heap → Prop) : Prop where
  mem : it ∈ fp
  obj : ∀ i h, tn i h → ∀ b ∈ fp, ∃ o, h.get? b = some o ∧ ∀ v, o.data ≠ .cell v
  keep : ∀ i h h', tn i h → (∀ b ∈ fp, ∀ o, h.get? b = some o → h'.get? b = some o) → tn i h'
  item : ∀ (X : Cx), X.prog = P → X.w = w → X.K = K → X.calm = true → ∀ (i : Nat) (pins : List (Addr × Obj)) (s : Shared) (σ : St) (H : Hp) (E : Value → Shared → Prop), Inv X pins σ H s → (∀ b ∈ fp, FpOk X pins H b) → tn i s.heap → J.go i H →
    wpAny (model P w) X.A (pyNext (.ref it)) (fun r s1 => ∃ u, r = some u ∧
      wpAny (model P w) X.A (letOwnedTupleGo tg (.ref it) u) (fun _ s2 => ∃ x H', Inv X pins σ H' s2 ∧ RelV x u ∧ J.yld i H x H' ∧ tn (i + 1) s2.heap ∧ ∀ b ∈ fp, H' b = none) E s1) E s
  done : ∀ (X : Cx), X.prog = P → X.w = w → X.K = K → X.calm = true → ∀ (i : Nat) (pins : List (Addr × Obj)) (s : Shared) (σ : St) (H : Hp) (E : Value → Shared → Prop), Inv X pins σ H s → (∀ b ∈ fp, FpOk X pins H b) → tn i s.heap → J.stop i H →
    wpAny (model P w) X.A (pyNext (.ref it)) (fun r s1 => r = none ∧ Inv X pins σ H s1) E s
  self : ∀ (A : Around) (i : Nat) (s : Shared) (Q : Value → Shared → Prop) (E : Value → Shared → Prop), tn i s.heap → Q (.ref it) s → wpAny (model P w) A (pyIter (.ref it)) Q E s
abbrev TI := St → Hp → (It → Hp → Prop) → Prop
def PIE (X : Cx) (pins : List (Addr × Obj)) (σ : St) (tg : Expr) (R : It → Hp → Prop) (itv : Value) (s2 : Shared) : Prop :=
  ∃ (it : Addr) (fp : List Addr) (tn : Nat → Heap → Prop) (J : It) (H' : Hp), itv = .ref it ∧ Inv X pins σ H' s2 ∧ Turn X.prog X.w X.K tg J fp it tn ∧ tn 0 s2.heap ∧ (∀ b ∈ fp, FpOk X pins H' b) ∧ R J H'
def PI (X : Cx) (tg iter : Expr) (wi : TI) : Prop :=
  ∀ (pins : List (Addr × Obj)) (s : Shared) (σ : St) (H : Hp) (R : It → Hp → Prop), Inv X pins σ H s → wi σ H R →
    wpAny (model X.prog X.w) X.A (eval iter X.env) (fun v s1 => wpAny (model X.prog X.w) X.A (pyIter v) (PIE X pins σ tg R) X.xe s1) X.xe s
theorem go_of {M : Model} {A : Around} {E : Value → Shared → Prop} {s : Shared} {tg : Expr} {it : Addr} {u : Value} {o : Obj} {n : String} {vs : Array Value} {Q : Unit → Shared → Prop} (ho : s.heap.get? it = some o) (hc : o.cls = .type n) (hd : o.data = .fields vs)
    (hn : ["enumerate", "zip", "dict_itemiterator", "dict_reverseitemiterator", "odict_iterator", "itertools.zip_longest", "itertools.pairwise"].contains n = false) (hQ : Q () s) : wpAny M A (letOwnedTupleGo tg (.ref it) u) Q E s := by
  unfold letOwnedTupleGo
  cases tg <;> first
    | exact wpAny_pure hQ
    | (cases u <;> first
        | exact wpAny_pure hQ
        | (refine wpAny_bind (wpAny_load ho ?_)
           rw [hc, hd]
           show wpAny M A (if (["enumerate", "zip", "dict_itemiterator", "dict_reverseitemiterator", "odict_iterator", "itertools.zip_longest", "itertools.pairwise"].contains n && vs[0]? == some (rawInt _)) = true then _ else _) Q E s
           rw [if_neg (by intro h; rw [hn, Bool.false_and] at h; cases h)]
           exact wpAny_pure hQ))
def Itl (K : PySem.W.Frag) (a : Addr) : It :=
  ⟨fun i H => ∃ xs x, SqL K H a xs ∧ xs[i]? = some x, fun i H x H' => H' = H ∧ ∀ xs, SqL K H a xs → xs[i]? = some x, fun i H => ∃ xs, SqL K H a xs ∧ xs.length ≤ i⟩
def Itt (K : PySem.W.Frag) (a : Addr) : It :=
  ⟨fun i H => ∃ xs x, SqT K H a xs ∧ xs[i]? = some x, fun i H x H' => H' = H ∧ ∀ xs, SqT K H a xs → xs[i]? = some x, fun i H => ∃ xs, SqT K H a xs ∧ xs.length ≤ i⟩
def Itr (lo : Int) (n : Nat) : It := ⟨fun i _ => i < n, fun i H x H' => H' = H ∧ x = .int (lo + i), fun i _ => n ≤ i⟩
theorem turn_list {P : Program} {w : World} {K : PySem.W.Frag} {tg : Expr} (a it : Addr) : Turn P w K tg (Itl K a) [it] it (fun i h => h.IsListIter it a i) where
  mem := by simp
  obj := fun i h st b hb => by
    have e : b = it := by simpa using hb
    subst e
    obtain ⟨o, e, c, d⟩ := st
    exact ⟨o, e, fun v z => by rw [d] at z; cases z⟩
  keep := fun i h h' st k => st.at fun o e => k it (by simp) o e
  item := by
    intro X hP hw hK hc i pins s σ H E I hf st hg
    subst hP hw hK
    obtain ⟨xs, x, hq, hx⟩ := hg
    obtain ⟨its, rv, p, hz⟩ := I.list hq
    obtain ⟨u, hu, ru⟩ := rv.get hx
    obtain ⟨f0, f1, f2, f3, f4, f5⟩ := hf it (by simp)
    refine wpAny_pyNext_list_item st p.isList (x := u) (by simpa using hu) fun h' st' sb => ?_
    have I1 : Inv X pins σ H { s with heap := h' } := I.turned (t' := s.toks) (fun b o hb e => (sb.2 b hb).trans e) f0 f1 f3 f4 f5
    obtain ⟨o, e, c, d⟩ := id st'
    exact ⟨u, rfl, go_of (s := { s with heap := h' }) e c d (by decide) ⟨x, H, I1, ru, ⟨rfl, fun ys hy => by rw [I.list_inj hy hq]; exact hx⟩, st', fun b hb => (hf b hb).1⟩⟩
  done := by
    intro X hP hw hK hc i pins s σ H E I hf st hg
    subst hP hw hK
    obtain ⟨xs, hq, hx⟩ := hg
    obtain ⟨its, rv, p, hz⟩ := I.list hq
    obtain ⟨f0, f1, f2, f3, f4, f5⟩ := hf it (by simp)
    have hl := rv.length
    exact wpAny_pyNext_list_end (I.ok.hd hc) st p.isList (by simp; omega) fun h' eb => ⟨rfl, I.turned (t' := s.toks) (fun b o hb e => eb b o hb e) f0 f1 f3 f4 f5⟩
  self := fun _ _ _ _ _ st h => wpAny_pyIter_listiter st h
theorem turn_tuple {P : Program} {w : World} {K : PySem.W.Frag} {tg : Expr} (a it : Addr) : Turn P w K tg (Itt K a) [it] it (fun i h => h.IsTupleIter it a i) where
  mem := by simp
  obj := fun i h st b hb => by
    have e : b = it := by simpa using hb
    subst e
    obtain ⟨o, e, c, d⟩ := st
    exact ⟨o, e, fun v z => by rw [d] at z; cases z⟩
  keep := fun i h h' st k => st.at fun o e => k it (by simp) o e
  item := by
    intro X hP hw hK hc i pins s σ H E I hf st hg
    subst hP hw hK
    obtain ⟨xs, x, hq, hx⟩ := hg
    obtain ⟨its, rv, p, hz⟩ := I.tuple hq
    obtain ⟨u, hu, ru⟩ := rv.get hx
    obtain ⟨f0, f1, f2, f3, f4, f5⟩ := hf it (by simp)
    refine wpAny_pyNext_tuple_item st (show s.heap.IsTuple a its.toArray from p) (x := u) (by simpa using hu) fun h' st' sb => ?_
    have I1 : Inv X pins σ H { s with heap := h' } := I.turned (t' := s.toks) (fun b o hb e => (sb.2 b hb).trans e) f0 f1 f3 f4 f5
    obtain ⟨o, e, c, d⟩ := id st'
    exact ⟨u, rfl, go_of (s := { s with heap := h' }) e c d (by decide) ⟨x, H, I1, ru, ⟨rfl, fun ys hy => by rw [I.tuple_inj hy hq]; exact hx⟩, st', fun b hb => (hf b hb).1⟩⟩
  done := by
    intro X hP hw hK hc i pins s σ H E I hf st hg
    subst hP hw hK
    obtain ⟨xs, hq, hx⟩ := hg
    obtain ⟨its, rv, p, hz⟩ := I.tuple hq
    obtain ⟨f0, f1, f2, f3, f4, f5⟩ := hf it (by simp)
    have hl := rv.length
    exact wpAny_pyNext_tuple_end (I.ok.hd hc) st (show s.heap.IsTuple a its.toArray from p) (by simp; omega) fun h' eb => ⟨rfl, I.turned (t' := s.toks) (fun b o hb e => eb b o hb e) f0 f1 f3 f4 f5⟩
  self := fun _ _ _ _ _ st h => wpAny_pyIter_tupleiter st h
theorem turn_range {P : Program} {w : World} {K : PySem.W.Frag} {tg : Expr} (it : Addr) (lo : Int) (n : Nat) : Turn P w K tg (Itr lo n) [it] it (fun i h => IsRangeIter h it (lo + (i : Nat) * 1) ((n : Int) - (i : Nat)) 1) where
  mem := by simp
  obj := fun i h st b hb => by
    have e : b = it := by simpa using hb
    subst e
    exact ⟨_, st, fun v z => by
      have z' : Data.fields _ = Data.cell v := z
      cases z'⟩
  keep := fun i h h' st k => k it (by simp) _ st
  item := by
    intro X hP hw hK hc i pins s σ H E I hf st hg
    subst hP hw hK
    obtain ⟨f0, f1, f2, f3, f4, f5⟩ := hf it (by simp)
    have W := Walks.range (prog := X.prog) (w := X.w) (I.ok.hd hc) it lo 1 n
    refine W.item i s _ _ hg st fun v h' tk hv st' kk => ?_
    obtain ⟨t, rfl⟩ := hv
    have I1 : Inv X pins σ H { s with heap := h', toks := tk } := I.turned (fun b o hb e => kk b o (by simpa using hb) e) f0 f1 f3 f4 f5
    refine ⟨_, rfl, go_of (s := { s with heap := h', toks := tk }) (n := "range_iterator") st' rfl rfl (by decide) ⟨.int (lo + i), H, I1, ⟨t, ?_⟩, ⟨rfl, rfl⟩, st', fun b hb => (hf b hb).1⟩⟩
    rw [Int.mul_one]
  done := by
    intro X hP hw hK hc i pins s σ H E I hf st hg
    subst hP hw hK
    obtain ⟨f0, f1, f2, f3, f4, f5⟩ := hf it (by simp)
    exact wpAny_pyNext_range_end (I.ok.hd hc) st (by have : n ≤ i := hg; omega) fun h' eb => ⟨rfl, I.turned (t' := s.toks) (fun b o hb e => eb b o hb e) f0 f1 f3 f4 f5⟩
  self := fun _ _ _ _ _ st h => wpAny_pyIter_rangeiter st h
end L2
namespace L2
open PySem PySem.Spec PyProof.Rows
section
variable {X : Cx} {tg : Expr}
def iList (K : PySem.W.Frag) (tl : TE) : TI := fun σ H R => tl σ H fun x H1 => ∃ a, x = .ref a ∧ (∃ xs, SqL K H1 a xs) ∧ R (Itl K a) H1
def iTup (K : PySem.W.Frag) (tl : TE) : TI := fun σ H R => tl σ H fun x H1 => ∃ a, x = .ref a ∧ (∃ xs, SqT K H1 a xs) ∧ R (Itt K a) H1
theorem pi_list {l : Expr} {tl : TE} (hl : PE X l tl) : PI X tg l (iList X.K tl) := by
  intro pins s σ H R I h
  refine thn (hl pins s σ H _ I h) fun v s1 ⟨x, H1, I1, r1, q1⟩ => ?_
  obtain ⟨a, e, ⟨xs, hq⟩, q⟩ := q1
  subst e
  cases r1
  obtain ⟨its, rv, p, hz⟩ := I1.list hq
  refine wpAny_pyIter_list p.isList ?_
  refine ⟨s1.heap.objs.size, [s1.heap.objs.size], _, _, H1, rfl, I1.kept (t' := s1.toks) fun b o e => Heap.get?_push_of_some _ e, turn_list a _, ⟨_, Heap.get?_push_size _ rfl, rfl, rfl⟩, fun b hb => ?_, q⟩
  have e : b = s1.heap.objs.size := by simpa using hb
  subst e
  exact I1.fpOk (Nat.le_refl _) (I1.hok.fresh (Nat.le_refl _))
theorem pi_tup {l : Expr} {tl : TE} (hl : PE X l tl) : PI X tg l (iTup X.K tl) := by
  intro pins s σ H R I h
  refine thn (hl pins s σ H _ I h) fun v s1 ⟨x, H1, I1, r1, q1⟩ => ?_
  obtain ⟨a, e, ⟨xs, hq⟩, q⟩ := q1
  subst e
  cases r1
  obtain ⟨its, rv, p, hz⟩ := I1.tuple hq
  refine wpAny_pyIter_tuple (show s1.heap.IsTuple a its.toArray from p) ?_
  refine ⟨s1.heap.objs.size, [s1.heap.objs.size], _, _, H1, rfl, I1.kept (t' := s1.toks) fun b o e => Heap.get?_push_of_some _ e, turn_tuple a _, ⟨_, Heap.get?_push_size _ rfl, rfl, rfl⟩, fun b hb => ?_, q⟩
  have e : b = s1.heap.objs.size := by simpa using hb
  subst e
  exact I1.fpOk (Nat.le_refl _) (I1.hok.fresh (Nat.le_refl _))
theorem range_it {pins : List (Addr × Obj)} {σ : St} {H : Hp} {s : Shared} {R : It → Hp → Prop} {E : Value → Shared → Prop} {lo hi : Int} {t u v : Tok} {tk : Nat} (I : Inv X pins σ H s) (h1 : -(2 ^ 62) ≤ lo) (h2 : lo < 2 ^ 62) (h3 : -(2 ^ 62) ≤ hi) (h4 : hi < 2 ^ 62)
    (q : R (Itr lo (hi - lo).toNat) H) : wpAny (model X.prog X.w) X.A (pyIter (.ref s.heap.objs.size)) (PIE X pins σ tg R) E { s with heap := s.heap.push { cls := .type "range", data := .fields #[.int lo t, .int hi u, .int 1 v] }, toks := tk } := by
  refine wpAny_pyIter_range (IsRange.new ..) (small_one h1 h2 h3 h4) ?_
  have I1 : Inv X pins σ H { s with heap := s.heap.push { cls := .type "range", data := .fields #[.int lo t, .int hi u, .int 1 v] }, toks := tk } := I.kept fun b o e => Heap.get?_push_of_some _ e
  refine ⟨(s.heap.push { cls := .type "range", data := .fields #[.int lo t, .int hi u, .int 1 v] }).objs.size, [(s.heap.push { cls := .type "range", data := .fields #[.int lo t, .int hi u, .int 1 v] }).objs.size], _, _, H, rfl,
    I1.kept (t' := tk) fun b o e => Heap.get?_push_of_some _ e, turn_range _ lo (hi - lo).toNat, ?_, fun b hb => ?_, q⟩
  · have e1 : lo + ((0 : Nat) : Int) * 1 = lo := by simp
    have e2 : (((hi - lo).toNat : Nat) : Int) - ((0 : Nat) : Int) = Builtin.Range.rangeSize lo hi 1 := by rw [rangeSize_one]; split <;> omega
    show IsRangeIter _ _ (lo + ((0 : Nat) : Int) * 1) ((((hi - lo).toNat : Nat) : Int) - ((0 : Nat) : Int)) 1
    rw [e1, e2]
    exact Heap.get?_push_size _ rfl
  · have e : b = (s.heap.push { cls := .type "range", data := .fields #[.int lo t, .int hi u, .int 1 v] }).objs.size := by simpa using hb
    subst e
    exact I1.fpOk (Nat.le_refl _) (I1.hok.fresh (Nat.le_refl _))
def iRng1 (ta : TA) : TI := fun σ H R => ta σ H fun vs H1 => ∃ j : Int, vs = [.int j] ∧ -(2 ^ 62) ≤ j ∧ j < 2 ^ 62 ∧ R (Itr 0 j.toNat) H1
def iRng2 (ta : TA) : TI := fun σ H R => ta σ H fun vs H1 => ∃ i j : Int, vs = [.int i, .int j] ∧ (-(2 ^ 62) ≤ i ∧ i < 2 ^ 62 ∧ -(2 ^ 62) ≤ j ∧ j < 2 ^ 62) ∧ R (Itr i (j - i).toNat) H1
theorem pi_range1 {a : Expr} {ta : TA} {p pos : Pos} (hg : Gl X "range") (hm : X.mg "range" = none) (ha : PA X [a] ta) (hs : starEach [a] X.env = [(false, eval a X.env)] := by rfl) : PI X tg (.Call (.Name "range" p) [a] [] pos) (iRng1 ta) := by
  intro pins s σ H R I h
  refine Call_ (ld_blt I hg hm boot_range (PyProof.Rows.callWith_type1 (thn (ha pos pins s σ H _ I h) fun us s1 ⟨vs, H1, I1, r1, q1⟩ => ?_) hs rfl))
  obtain ⟨j, e, q1, q2, q⟩ := q1
  subst e
  cases r1 with
  | cons r rr =>
    cases rr
    obtain ⟨t, rfl⟩ := r
    exact call_range_1 (range_it I1 (by omega) (by omega) q1 q2 (by simpa using q))
theorem pi_range2 {a b : Expr} {ta : TA} {p pos : Pos} (hg : Gl X "range") (hm : X.mg "range" = none) (ha : PA X [a, b] ta) (hs : starEach [a, b] X.env = [(false, eval a X.env), (false, eval b X.env)] := by rfl) (hs2 : starEach [b] X.env = [(false, eval b X.env)] := by rfl) :
    PI X tg (.Call (.Name "range" p) [a, b] [] pos) (iRng2 ta) := by
  intro pins s σ H R I h
  refine Call_ (ld_blt I hg hm boot_range (PyProof.Rows.callWith_type1 (thn (ha pos pins s σ H _ I h) fun us s1 ⟨vs, H1, I1, r1, q1⟩ => ?_) (by rw [hs, hs2]) (by rw [hs2]; rfl)))
  obtain ⟨i, j, e, ⟨q1, q2, q3, q4⟩, q⟩ := q1
  subst e
  cases r1 with
  | cons r rr =>
    cases rr with
    | cons r' rr =>
      cases rr
      obtain ⟨t, rfl⟩ := r
      obtain ⟨t', rfl⟩ := r'
      exact call_range_2 (range_it I1 q1 q2 q3 q4 q)
def tFor (wi : TI) (g : TG) (tb : TS) : TS := fun D σ H => wi σ H fun J H1 => ∃ W : Nat → Nat → St → Hp → Prop, (∃ m, W 0 m σ H1) ∧ ∀ i m σ H, W i m σ H →
  (J.stop i H ∧ D.nx σ H) ∨ (J.go i H ∧ ∃ N : St → Hp → Prop, (∀ σ' H', N σ' H' → ∃ m', m' < m ∧ W (i + 1) m' σ' H') ∧ ∀ x H', J.yld i H x H' → g x σ H' fun σ2 H2 => tb { D with nx := N, ct := N, bk := D.nx } σ2 H2)
def pinsAt (fp : List Addr) (h : Heap) : List (Addr × Obj) := fp.filterMap fun b => (h.get? b).map fun o => (b, o)
theorem mem_pinsAt {fp : List Addr} {h : Heap} {b : Addr} {o : Obj} (hb : b ∈ fp) (e : h.get? b = some o) : (b, o) ∈ pinsAt fp h := List.mem_filterMap.mpr ⟨b, hb, by rw [e]; rfl⟩
theorem of_pinsAt {fp : List Addr} {h : Heap} {p : Addr × Obj} (hp : p ∈ pinsAt fp h) : p.1 ∈ fp ∧ h.get? p.1 = some p.2 := by
  obtain ⟨b, hb, e⟩ := List.mem_filterMap.mp hp
  cases q : h.get? b with
  | none => rw [q] at e; cases e
  | some o =>
    rw [q] at e
    have e' : (b, o) = p := Option.some.inj e
    subst e'
    exact ⟨hb, q⟩
theorem Inv.pinned {pins : List (Addr × Obj)} {σ : St} {H : Hp} {s : Shared} {fp : List Addr} (I : Inv X pins σ H s) (hf : ∀ b ∈ fp, FpOk X pins H b) (ho : ∀ b ∈ fp, ∃ o, s.heap.get? b = some o ∧ ∀ v, o.data ≠ .cell v) : Inv X (pins ++ pinsAt fp s.heap) σ H s :=
  I.pins_of fun p hp => (List.mem_append.mp hp).elim (fun z => I.pin p (List.mem_append_right _ z)) fun z => by
    obtain ⟨hb, e⟩ := of_pinsAt z
    obtain ⟨f0, f1, f2, _⟩ := hf p.1 hb
    obtain ⟨o, e', d⟩ := ho p.1 hb
    rw [e] at e'; cases e'
    exact ⟨e, f0, f1, f2, d⟩
theorem Inv.unpinned {pins pl : List (Addr × Obj)} {σ : St} {H : Hp} {s : Shared} (I : Inv X (pins ++ pl) σ H s) : Inv X pins σ H s := I.pins_of fun p hp => I.pin p (List.mem_append_right _ (List.mem_append_left _ hp))
theorem ps_for {iter : Expr} {body : List Stmt} {wi : TI} {g : TG} {tb : TS} {pos : Pos} (hp : PassesOwn (model X.prog X.w) X.A X.env X.xe) (hc : X.calm = true) (hi : PI X tg iter wi) (hg : PG X tg g) (hb : PSs X body tb)
    (hs : ∀ x, foldedSetIterable iter X.env x = pure x := by intro _; rfl) : PS X (.For tg iter body [] pos) (tFor wi g tb) := by
  intro pins s σ H D I h
  refine wpAny_For (thn (hi pins s σ H _ I h) fun v s1 h1 => thn h1 fun itv s2 h2 => ?_) hs
  obtain ⟨it, fp, tn, J, H2, e, I2, T, st2, f2, W, ⟨m0, w0⟩, turn⟩ := h2
  subst e
  have stat : ∀ {H' : Hp}, (∀ b ∈ fp, H' b = none) → ∀ b ∈ fp, FpOk X pins H' b := fun hn b hb => ⟨hn b hb, (f2 b hb).2⟩
  refine codeAny_forLoop_any (fun n s' => ∃ i σ' H', Inv X pins σ' H' s' ∧ tn i s'.heap ∧ (∀ b ∈ fp, H' b = none) ∧ W i n σ' H') ?_ m0 ⟨0, σ, H2, I2, st2, fun b hb => (f2 b hb).1, w0⟩
  rintro n s3 ⟨i, σ3, H3, I3, st3, fr3, w3⟩
  rcases turn i n σ3 H3 w3 with ⟨stop, qn⟩ | ⟨go, N, hN, step⟩
  · refine wpAny_passesOwn hp (thn (T.done X rfl rfl rfl hc i pins s3 σ3 H3 X.xe I3 (stat fr3) st3 stop) fun r s4 ⟨hr, I4⟩ => ?_)
    subst hr
    exact wpAny_execs_nil ⟨σ3, H3, I4, qn⟩
  · refine wpAny_passesOwn hp (thn (T.item X rfl rfl rfl hc i pins s3 σ3 H3 X.xe I3 (stat fr3) st3 go) fun r s4 ⟨u, hr, h4⟩ => ?_)
    subst hr
    refine wpAny_passesOwn hp (thn h4 fun _ s5 ⟨x, H5, I5, r5, y5, st5, fr5⟩ => ?_)
    have I5' := I5.pinned (stat fr5) (T.obj _ _ st5)
    refine wpAny_passesOwn hp (thn (hg _ s5 σ3 H5 x u _ I5' r5 (step x H5 y5)) fun _ s6 ⟨σ6, H6, I6, q6⟩ => ?_)
    refine wpAny_passesOwn hp (thn (hb _ s6 σ6 H6 _ I6 q6) fun f s7 q7 => ?_)
    have again : ∀ {σ7 : St} {H7 : Hp}, Inv X (pins ++ pinsAt fp s5.heap) σ7 H7 s7 → N σ7 H7 → ∃ m, m < n ∧ ∃ i σ' H', Inv X pins σ' H' s7 ∧ tn i s7.heap ∧ (∀ b ∈ fp, H' b = none) ∧ W i m σ' H' := fun {σ7 H7} I7 n7 => by
      obtain ⟨m', hm, w7⟩ := hN σ7 H7 n7
      refine ⟨m', hm, i + 1, σ7, H7, I7.unpinned, T.keep _ _ _ st5 fun b hb o e => (I7.pin (b, o) (List.mem_append_right _ (List.mem_append_right _ (mem_pinsAt hb e)))).1, fun b hb => ?_, w7⟩
      obtain ⟨o, e, d⟩ := T.obj _ _ st5 b hb
      exact (I7.pin (b, o) (List.mem_append_right _ (List.mem_append_right _ (mem_pinsAt hb e)))).2.1
    cases f with
    | next => obtain ⟨σ7, H7, I7, n7⟩ := q7; exact again I7 n7
    | cont => obtain ⟨σ7, H7, I7, n7⟩ := q7; exact again I7 n7
    | brk => obtain ⟨σ7, H7, I7, q7⟩ := q7; exact ⟨σ7, H7, I7.unpinned, q7⟩
    | ret v => obtain ⟨x7, σ7, H7, I7, r7, q7⟩ := q7; exact ⟨x7, σ7, H7, I7.unpinned, r7, q7⟩
end
theorem for_list {K : PySem.W.Frag} {a : Addr} {xs : List V} {g : TG} {tb : TS} {D : Ends} {σ : St} {H : Hp} (Pv : Nat → St → Hp → Prop) (h0 : Pv 0 σ H) (hl : ∀ i σ H, i ≤ xs.length → Pv i σ H → SqL K H a xs)
    (hs : ∀ i x σ H, xs[i]? = some x → Pv i σ H → g x σ H fun σ2 H2 => tb { D with nx := Pv (i + 1), ct := Pv (i + 1), bk := D.nx } σ2 H2) (hd : ∀ σ H, Pv xs.length σ H → D.nx σ H) :
    ∃ W : Nat → Nat → St → Hp → Prop, (∃ m, W 0 m σ H) ∧ ∀ i m σ H, W i m σ H →
      ((Itl K a).stop i H ∧ D.nx σ H) ∨ ((Itl K a).go i H ∧ ∃ N : St → Hp → Prop, (∀ σ' H', N σ' H' → ∃ m', m' < m ∧ W (i + 1) m' σ' H') ∧ ∀ x H', (Itl K a).yld i H x H' → g x σ H' fun σ2 H2 => tb { D with nx := N, ct := N, bk := D.nx } σ2 H2) := by
  refine ⟨fun i m σ H => m = xs.length - i ∧ i ≤ xs.length ∧ Pv i σ H, ⟨xs.length, by simp, Nat.zero_le _, h0⟩, ?_⟩
  rintro i m σ H ⟨rfl, hi, p⟩
  have q := hl i σ H hi p
  by_cases hlt : i < xs.length
  · refine .inr ⟨⟨xs, xs[i], q, by simp [hlt]⟩, Pv (i + 1), fun σ' H' p' => ⟨xs.length - (i + 1), by omega, rfl, hlt, p'⟩, fun x H' y => ?_⟩
    obtain ⟨e, y⟩ := y
    subst e
    exact hs i x σ _ (y xs q) p
  · have e : i = xs.length := by omega
    subst e
    exact .inl ⟨⟨xs, q, Nat.le_refl _⟩, hd σ H p⟩
theorem for_tup {K : PySem.W.Frag} {a : Addr} {xs : List V} {g : TG} {tb : TS} {D : Ends} {σ : St} {H : Hp} (Pv : Nat → St → Hp → Prop) (h0 : Pv 0 σ H) (hl : ∀ i σ H, i ≤ xs.length → Pv i σ H → SqT K H a xs)
    (hs : ∀ i x σ H, xs[i]? = some x → Pv i σ H → g x σ H fun σ2 H2 => tb { D with nx := Pv (i + 1), ct := Pv (i + 1), bk := D.nx } σ2 H2) (hd : ∀ σ H, Pv xs.length σ H → D.nx σ H) :
    ∃ W : Nat → Nat → St → Hp → Prop, (∃ m, W 0 m σ H) ∧ ∀ i m σ H, W i m σ H →
      ((Itt K a).stop i H ∧ D.nx σ H) ∨ ((Itt K a).go i H ∧ ∃ N : St → Hp → Prop, (∀ σ' H', N σ' H' → ∃ m', m' < m ∧ W (i + 1) m' σ' H') ∧ ∀ x H', (Itt K a).yld i H x H' → g x σ H' fun σ2 H2 => tb { D with nx := N, ct := N, bk := D.nx } σ2 H2) := by
  refine ⟨fun i m σ H => m = xs.length - i ∧ i ≤ xs.length ∧ Pv i σ H, ⟨xs.length, by simp, Nat.zero_le _, h0⟩, ?_⟩
  rintro i m σ H ⟨rfl, hi, p⟩
  have q := hl i σ H hi p
  by_cases hlt : i < xs.length
  · refine .inr ⟨⟨xs, xs[i], q, by simp [hlt]⟩, Pv (i + 1), fun σ' H' p' => ⟨xs.length - (i + 1), by omega, rfl, hlt, p'⟩, fun x H' y => ?_⟩
    obtain ⟨e, y⟩ := y
    subst e
    exact hs i x σ _ (y xs q) p
  · have e : i = xs.length := by omega
    subst e
    exact .inl ⟨⟨xs, q, Nat.le_refl _⟩, hd σ H p⟩
theorem for_range {lo : Int} {n : Nat} {g : TG} {tb : TS} {D : Ends} {σ : St} {H : Hp} (Pv : Nat → St → Hp → Prop) (h0 : Pv 0 σ H)
    (hs : ∀ i σ H, i < n → Pv i σ H → g (.int (lo + i)) σ H fun σ2 H2 => tb { D with nx := Pv (i + 1), ct := Pv (i + 1), bk := D.nx } σ2 H2) (hd : ∀ σ H, Pv n σ H → D.nx σ H) :
    ∃ W : Nat → Nat → St → Hp → Prop, (∃ m, W 0 m σ H) ∧ ∀ i m σ H, W i m σ H →
      ((Itr lo n).stop i H ∧ D.nx σ H) ∨ ((Itr lo n).go i H ∧ ∃ N : St → Hp → Prop, (∀ σ' H', N σ' H' → ∃ m', m' < m ∧ W (i + 1) m' σ' H') ∧ ∀ x H', (Itr lo n).yld i H x H' → g x σ H' fun σ2 H2 => tb { D with nx := N, ct := N, bk := D.nx } σ2 H2) := by
  refine ⟨fun i m σ H => m = n - i ∧ i ≤ n ∧ Pv i σ H, ⟨n, by simp, Nat.zero_le _, h0⟩, ?_⟩
  rintro i m σ H ⟨rfl, hi, p⟩
  by_cases hlt : i < n
  · refine .inr ⟨hlt, Pv (i + 1), fun σ' H' p' => ⟨n - (i + 1), by omega, rfl, hlt, p'⟩, fun x H' y => ?_⟩
    obtain ⟨e, y⟩ := y
    subst e y
    exact hs i σ _ hlt p
  · have e : i = n := by omega
    subst e
    exact .inl ⟨Nat.le_refl _, hd σ H p⟩
end L2
namespace L2
open PySem PySem.Spec PyProof.Rows
abbrev R2 := V → V → Hp → VK → Prop
def OpR (X : Cx) (f : Value → Value → Sem Value) (r : R2) : Prop :=
  ∀ (pins : List (Addr × Obj)) (s : Shared) (σ : St) (H : Hp) (x y : V) (v u : Value) (Q : VK), Inv X pins σ H s → RelV x v → RelV y u → r x y H Q →
    wpAny (model X.prog X.w) X.A (f v u) (EP X pins σ Q) X.xe s
def UnR (X : Cx) (f : Value → Sem Value) (r : V → Hp → VK → Prop) : Prop :=
  ∀ (pins : List (Addr × Obj)) (s : Shared) (σ : St) (H : Hp) (x : V) (v : Value) (Q : VK), Inv X pins σ H s → RelV x v → r x H Q →
    wpAny (model X.prog X.w) X.A (f v) (EP X pins σ Q) X.xe s
def CallR (X : Cx) (f : Value) (r : List V → Hp → VK → Prop) : Prop :=
  ∀ (pins : List (Addr × Obj)) (s : Shared) (σ : St) (H : Hp) (xs : List V) (us : List Value) (Q : VK), Inv X pins σ H s → Vals xs us → r xs H Q →
    wpAny (model X.prog X.w) X.A (call f us) (EP X pins σ Q) X.xe s
def TruR (X : Cx) (r : V → Hp → (Bool → Hp → Prop) → Prop) : Prop :=
  ∀ (pins : List (Addr × Obj)) (s : Shared) (σ : St) (H : Hp) (x : V) (v : Value) (Q : Bool → Hp → Prop), Inv X pins σ H s → RelV x v → r x H Q →
    wpAny (model X.prog X.w) X.A (truthy v) (TP X pins σ Q) X.xe s
def tOp (r : R2) (ta tb : TE) : TE := fun σ H Q => ta σ H fun x H1 => tb σ H1 fun y H2 => r x y H2 Q
def tUn (r : V → Hp → VK → Prop) (ta : TE) : TE := fun σ H Q => ta σ H fun x H1 => r x H1 Q
def rI (C : Int → Int → Prop) (g : Int → Int → V) : R2 := fun x y H Q => ∃ i j, x = .int i ∧ y = .int j ∧ C i j ∧ Q (g i j) H
def rI0 (g : Int → Int → V) : R2 := fun x y H Q => ∃ i j, x = .int i ∧ y = .int j ∧ Q (g i j) H
def rU (g : Int → V) : V → Hp → VK → Prop := fun x H Q => ∃ i, x = .int i ∧ Q (g i) H
section
variable {X : Cx} {a b c : Expr} {ta tb tc : TE} {pos : Pos}
theorem binT (ha : PE X a ta) (hb : PE X b tb) {pins : List (Addr × Obj)} {s : Shared} {σ : St} {H : Hp} {R : V → V → Hp → Prop} (I : Inv X pins σ H s)
    (h : ta σ H fun x H1 => tb σ H1 fun y H2 => R x y H2) {Q : Value → Shared → Prop} {f : Value → Value → Sem Value}
    (hf : ∀ v u s2 x y H2, Inv X pins σ H2 s2 → RelV x v → RelV y u → R x y H2 → wpAny (model X.prog X.w) X.A (f v u) Q X.xe s2) :
    wpAny (model X.prog X.w) X.A (eval a X.env) (fun v s₁ => wpAny (model X.prog X.w) X.A (eval b X.env) (fun u s₂ => wpAny (model X.prog X.w) X.A (f v u) Q X.xe s₂) X.xe s₁) X.xe s := by
  refine thn (ha pins s σ H _ I h) fun v s1 ⟨x, H1, I1, r1, q1⟩ => ?_
  refine thn (hb pins s1 σ H1 _ I1 q1) fun u s2 ⟨y, H2, I2, r2, q2⟩ => ?_
  exact hf v u s2 x y H2 I2 r1 r2 q2
theorem pe_op {op : Operator} {r : R2} (ho : OpR X (binaryOp op) r) (ha : PE X a ta) (hb : PE X b tb) : PE X (.BinOp a op b pos) (tOp r ta tb) := by
  intro pins s σ H Q I h
  exact wpAny_BinOp (binT ha hb I h fun v u s2 x y H2 I2 rx ry q => ho pins s2 σ H2 x y v u Q I2 rx ry q)
theorem pe_un {op : UnaryOp} {r : V → Hp → VK → Prop} (ho : UnR X (unaryOp op) r) (ha : PE X a ta) : PE X (.UnaryOp op a pos) (tUn r ta) := by
  intro pins s σ H Q I h
  exact UnaryOp_ (thn (ha pins s σ H _ I h) fun v s1 ⟨x, H1, I1, r1, q1⟩ => ho pins s1 σ H1 x v Q I1 r1 q1)
theorem opI {f : Value → Value → Sem Value} {C : Int → Int → Prop} {g : Int → Int → Int}
    (rule : ∀ (i j : Int) (t u : Tok) (s : Shared) (Q : Value → Shared → Prop) (E : Value → Shared → Prop), C i j → Q (.int (g i j) s.toks) { s with toks := s.toks + 1 } → wpAny (model X.prog X.w) X.A (f (.int i t) (.int j u)) Q E s) :
    OpR X f (rI C fun i j => .int (g i j)) := by
  intro pins s σ H x y v u Q I rx ry h
  obtain ⟨i, j, rfl, rfl, hc, q⟩ := h
  obtain ⟨t, rfl⟩ := rx
  obtain ⟨t', rfl⟩ := ry
  exact rule i j t t' s _ _ hc ⟨.int (g i j), H, I.tok _, ⟨_, rfl⟩, q⟩
theorem opI0 {f : Value → Value → Sem Value} {g : Int → Int → Int}
    (rule : ∀ (i j : Int) (t u : Tok) (s : Shared) (Q : Value → Shared → Prop) (E : Value → Shared → Prop), Q (.int (g i j) s.toks) { s with toks := s.toks + 1 } → wpAny (model X.prog X.w) X.A (f (.int i t) (.int j u)) Q E s) :
    OpR X f (rI0 fun i j => .int (g i j)) := by
  intro pins s σ H x y v u Q I rx ry h
  obtain ⟨i, j, rfl, rfl, q⟩ := h
  obtain ⟨t, rfl⟩ := rx
  obtain ⟨t', rfl⟩ := ry
  exact rule i j t t' s _ _ ⟨.int (g i j), H, I.tok _, ⟨_, rfl⟩, q⟩
theorem opB0 {f : Value → Value → Sem Value} {g : Int → Int → Bool}
    (rule : ∀ (i j : Int) (t u : Tok) (s : Shared) (Q : Value → Shared → Prop) (E : Value → Shared → Prop), Q (.bool (g i j)) s → wpAny (model X.prog X.w) X.A (f (.int i t) (.int j u)) Q E s) :
    OpR X f (rI0 fun i j => .bl (g i j)) := by
  intro pins s σ H x y v u Q I rx ry h
  obtain ⟨i, j, rfl, rfl, q⟩ := h
  obtain ⟨t, rfl⟩ := rx
  obtain ⟨t', rfl⟩ := ry
  exact rule i j t t' s _ _ ⟨.bl (g i j), H, I, rfl, q⟩
def CPow (i j : Int) : Prop := 0 ≤ j ∧ j ≤ 1000000 ∧ i.natAbs < 2 ^ 64
def CMul (i j : Int) : Prop := (-(2 ^ 64) < i ∧ i < 2 ^ 64) ∨ (-(2 ^ 64) < j ∧ j < 2 ^ 64)
theorem CMul.ok {i j : Int} (h : CMul i j) : IntMulOk i j := by
  rcases h with ⟨h1, h2⟩ | ⟨h1, h2⟩
  · exact .of_left (intBits_le_64 h1 h2)
  · exact .of_right (intBits_le_64 h1 h2)
theorem op_add : OpR X (binaryOp .Add) (rI0 fun i j => .int (i + j)) := opI0 fun _ _ _ _ _ _ _ q => add_int q
theorem op_sub : OpR X (binaryOp .Sub) (rI0 fun i j => .int (i - j)) := opI0 fun _ _ _ _ _ _ _ q => sub_int q
theorem op_mul : OpR X (binaryOp .Mult) (rI CMul fun i j => .int (i * j)) := opI fun _ _ _ _ _ _ _ hc q => mul_int q hc.ok
theorem op_mod : OpR X (binaryOp .Mod) (rI (fun _ j => 0 < j) fun i j => .int (i % j)) := opI fun i j _ _ _ _ _ hc q => by
  have h1 : (0 : Int) < j := hc
  exact mod_int' (by omega) (by rw [Int.fmod_eq_emod_of_nonneg i (by omega)]; exact q)
theorem op_pow : OpR X (binaryOp .Pow) (rI CPow fun i j => .int (i ^ j.toNat)) := opI fun _ _ _ _ _ _ _ hc q => pow_int_small hc.1 hc.2.1 hc.2.2 q
theorem unI {f : Value → Sem Value} {g : Int → Int}
    (rule : ∀ (i : Int) (t : Tok) (s : Shared) (Q : Value → Shared → Prop) (E : Value → Shared → Prop), Q (.int (g i) s.toks) { s with toks := s.toks + 1 } → wpAny (model X.prog X.w) X.A (f (.int i t)) Q E s) :
    UnR X f (rU fun i => .int (g i)) := by
  intro pins s σ H x v Q I rx h
  obtain ⟨i, rfl, q⟩ := h
  obtain ⟨t, rfl⟩ := rx
  exact rule i t s _ _ ⟨.int (g i), H, I.tok _, ⟨_, rfl⟩, q⟩
theorem un_neg : UnR X (unaryOp .USub) (rU fun i => .int (-i)) := unI fun _ _ _ _ _ q => neg_int q
end
def scal : V → V → Bool
  | .non, .non => true | .non, .int _ => true | .int _, .non => true | .non, .bl _ => true | .bl _, .non => true | .non, .str _ => true | .str _, .non => true
  | .int _, .int _ => true | .bl _, .bl _ => true | .str _, .str _ => true | .byt _, .byt _ => true
  | .int _, .str _ => true | .str _, .int _ => true | .bl _, .str _ => true | .str _, .bl _ => true
  | _, _ => false
def rEq : R2 := fun x y H Q => scal x y = true ∧ Q (.bl (decide (x = y))) H
def rNe : R2 := fun x y H Q => scal x y = true ∧ Q (.bl (!decide (x = y))) H
theorem dec_int {i j : Int} : decide (V.int i = V.int j) = (i == j) := by
  rw [Bool.eq_iff_iff]
  simp
theorem dec_bl {i j : Bool} : decide (V.bl i = V.bl j) = (i == j) := by
  rw [Bool.eq_iff_iff]
  simp
theorem dec_str {i j : Str} : decide (V.str i = V.str j) = (i == j) := by
  rw [Bool.eq_iff_iff]
  simp
theorem dec_byt {i j : Array UInt8} : decide (V.byt i = V.byt j) = (i.toList == j.toList) := by
  rw [Bool.eq_iff_iff]
  cases i
  cases j
  simp
section
variable {X : Cx} {a b c : Expr} {ta tb tc : TE} {pos : Pos}
theorem fin_bl {pins : List (Addr × Obj)} {σ : St} {H : Hp} {s : Shared} {Q : VK} {k k' : Bool} (I : Inv X pins σ H s) (q : Q (.bl k) H) (e : k = k') : EP X pins σ Q (.bool k') s := by
  subst e
  exact ⟨.bl k, H, I, rfl, q⟩
theorem op_eq : OpR X (compareOp .Eq) rEq := by
  intro pins s σ H x y v u Q I rx ry h
  obtain ⟨hs, q⟩ := h
  cases x with
  | non =>
    cases rx
    cases y with
    | non => cases ry; exact PySem.EqNone.eq_none_none (fin_bl I q (by simp))
    | bl j => cases ry; exact PySem.EqNone.eq_none_bool (fin_bl I q (by simp))
    | int j => obtain ⟨t', rfl⟩ := ry; exact PySem.EqNone.eq_none_int (fin_bl I q (by simp))
    | str j => obtain ⟨t', rfl⟩ := ry; exact PySem.EqNone.eq_none_str (fin_bl I q (by simp))
    | _ => exact absurd (show false = true from hs) Bool.false_ne_true
  | bl i =>
    cases rx
    cases y with
    | non => cases ry; exact PySem.EqNone.eq_bool_none (fin_bl I q (by simp))
    | bl j => cases ry; exact eq_bool (fin_bl I q dec_bl)
    | str j => obtain ⟨t', rfl⟩ := ry; exact PySem.EqMixed.eq_bool_str (fin_bl I q (by simp))
    | _ => exact absurd (show false = true from hs) Bool.false_ne_true
  | int i =>
    obtain ⟨t, rfl⟩ := rx
    cases y with
    | non => cases ry; exact PySem.EqNone.eq_int_none (fin_bl I q (by simp))
    | int j => obtain ⟨t', rfl⟩ := ry; exact eq_int (fin_bl I q dec_int)
    | str j => obtain ⟨t', rfl⟩ := ry; exact PySem.EqMixed.eq_int_str (fin_bl I q (by simp))
    | _ => exact absurd (show false = true from hs) Bool.false_ne_true
  | str i =>
    obtain ⟨t, rfl⟩ := rx
    cases y with
    | non => cases ry; exact PySem.EqNone.eq_str_none (fin_bl I q (by simp))
    | bl j => cases ry; exact PySem.EqMixed.eq_str_bool (fin_bl I q (by simp))
    | int j => obtain ⟨t', rfl⟩ := ry; exact PySem.EqMixed.eq_str_int (fin_bl I q (by simp))
    | str j => obtain ⟨t', rfl⟩ := ry; exact eq_str (fin_bl I q dec_str)
    | _ => exact absurd (show false = true from hs) Bool.false_ne_true
  | byt i =>
    obtain ⟨t, rfl⟩ := rx
    cases y with
    | byt j => obtain ⟨t', rfl⟩ := ry; exact PySem.W.eq_bytes (fin_bl I q dec_byt)
    | _ => exact absurd (show false = true from hs) Bool.false_ne_true
  | _ => cases y <;> exact absurd (show false = true from hs) Bool.false_ne_true
theorem op_ne : OpR X (compareOp .NotEq) rNe := by
  intro pins s σ H x y v u Q I rx ry h
  obtain ⟨hs, q⟩ := h
  cases x with
  | non =>
    cases rx
    cases y with
    | non => cases ry; exact PySem.EqNone.ne_none_none (fin_bl I q (by simp))
    | bl j => cases ry; exact PySem.EqNone.ne_none_bool (fin_bl I q (by simp))
    | int j => obtain ⟨t', rfl⟩ := ry; exact PySem.EqNone.ne_none_int (fin_bl I q (by simp))
    | str j => obtain ⟨t', rfl⟩ := ry; exact PySem.EqNone.ne_none_str (fin_bl I q (by simp))
    | _ => exact absurd (show false = true from hs) Bool.false_ne_true
  | bl i =>
    cases rx
    cases y with
    | non => cases ry; exact PySem.EqNone.ne_bool_none (fin_bl I q (by simp))
    | bl j => cases ry; exact ne_bool (fin_bl I q (congrArg not dec_bl))
    | str j => obtain ⟨t', rfl⟩ := ry; exact PySem.EqMixed.ne_bool_str (fin_bl I q (by simp))
    | _ => exact absurd (show false = true from hs) Bool.false_ne_true
  | int i =>
    obtain ⟨t, rfl⟩ := rx
    cases y with
    | non => cases ry; exact PySem.EqNone.ne_int_none (fin_bl I q (by simp))
    | int j => obtain ⟨t', rfl⟩ := ry; exact ne_int (fin_bl I q (congrArg not dec_int))
    | str j => obtain ⟨t', rfl⟩ := ry; exact PySem.EqMixed.ne_int_str (fin_bl I q (by simp))
    | _ => exact absurd (show false = true from hs) Bool.false_ne_true
  | str i =>
    obtain ⟨t, rfl⟩ := rx
    cases y with
    | non => cases ry; exact PySem.EqNone.ne_str_none (fin_bl I q (by simp))
    | bl j => cases ry; exact PySem.EqMixed.ne_str_bool (fin_bl I q (by simp))
    | int j => obtain ⟨t', rfl⟩ := ry; exact PySem.EqMixed.ne_str_int (fin_bl I q (by simp))
    | str j => obtain ⟨t', rfl⟩ := ry; exact ne_str (fin_bl I q (congrArg not dec_str))
    | _ => exact absurd (show false = true from hs) Bool.false_ne_true
  | byt i =>
    obtain ⟨t, rfl⟩ := rx
    cases y with
    | byt j => obtain ⟨t', rfl⟩ := ry; exact PySem.W.ne_bytes (fin_bl I q (congrArg not dec_byt))
    | _ => exact absurd (show false = true from hs) Bool.false_ne_true
  | _ => cases y <;> exact absurd (show false = true from hs) Bool.false_ne_true
theorem op_lt : OpR X (compareOp .Lt) (rI0 fun i j => .bl (decide (i < j))) := opB0 fun _ _ _ _ _ _ _ q => lt_int q
theorem op_le : OpR X (compareOp .LtE) (rI0 fun i j => .bl (decide (i ≤ j))) := opB0 fun _ _ _ _ _ _ _ q => le_int q
theorem op_gt : OpR X (compareOp .Gt) (rI0 fun i j => .bl (decide (j < i))) := opB0 fun _ _ _ _ _ _ _ q => gt_int q
theorem op_ge : OpR X (compareOp .GtE) (rI0 fun i j => .bl (decide (j ≤ i))) := opB0 fun _ _ _ _ _ _ _ q => ge_int q
theorem op_isN : OpR X (compareOp .Is) (fun x y H Q => y = .non ∧ Q (.bl (decide (x = .non))) H) := by
  intro pins s σ H x y v u Q I rx ry h
  obtain ⟨rfl, q⟩ := h
  cases ry
  refine is_none_gen (fin_bl I q ?_)
  cases x <;> first
    | (cases rx; rfl)
    | (obtain ⟨t, rfl⟩ := rx; rfl)
theorem op_notN : OpR X (compareOp .IsNot) (fun x y H Q => y = .non ∧ Q (.bl (!decide (x = .non))) H) := by
  intro pins s σ H x y v u Q I rx ry h
  obtain ⟨rfl, q⟩ := h
  cases ry
  refine isnot_none_gen (fin_bl I q ?_)
  cases x <;> first
    | (cases rx; rfl)
    | (obtain ⟨t, rfl⟩ := rx; rfl)
theorem nomark (b : Expr) {op : CmpOp} (h : op ≠ .In := by decide) (h2 : op ≠ .NotIn := by decide) : behindInMarks op b = false := by
  have e1 : (op == CmpOp.In) = false := by cases op <;> first | rfl | exact absurd rfl h
  have e2 : (op == CmpOp.NotIn) = false := by cases op <;> first | rfl | exact absurd rfl h2
  cases b <;> simp [behindInMarks, e1, e2]
theorem pe_cmpR {op : CmpOp} {r : R2} (ho : OpR X (compareOp op) r) (ha : PE X a ta) (hb : PE X b tb) (hm : behindInMarks op b = false) : PE X (.Compare a [op] [b] pos) (tOp r ta tb) := by
  intro pins s σ H Q I h
  exact wpAny_Compare1 (binT ha hb I h fun v u s2 x y H2 I2 rx ry q => ho pins s2 σ H2 x y v u Q I2 rx ry q) hm
def tTest (t : TE) : TT := fun σ H Q => t σ H fun x H' => ∃ k, x = .bl k ∧ Q k H'
theorem pt_cmpR {op : CmpOp} {r : R2} (ho : OpR X (compareOp op) r) (ha : PE X a ta) (hb : PE X b tb) (hm : behindInMarks op b = false) : PT X (.Compare a [op] [b] pos) (tTest (tOp r ta tb)) := by
  intro pins s σ H Q I h
  refine wpAny_isTrue_Compare1 (thn (ha pins s σ H _ I h) fun v s1 ⟨x, H1, I1, r1, q1⟩ => thn (hb pins s1 σ H1 _ I1 q1) fun u s2 ⟨y, H2, I2, r2, q2⟩ =>
    thn (ho pins s2 σ H2 x y v u _ I2 r1 r2 q2) fun c s3 ⟨z, H3, I3, r3, k, e, q3⟩ => ?_) hm
  subst e
  cases r3
  exact wpAny_truthy_bool ⟨H3, I3, q3⟩
def tChain (r r' : R2) (ta tb tc : TE) : TE := fun σ H Q => ta σ H fun x H1 => tb σ H1 fun y H2 => r x y H2 fun z H3 => ∃ k, z = .bl k ∧
  (if k = true then tc σ H3 fun w' H4 => r' y w' H4 Q else Q (.bl false) H3)
theorem pt_chain {op op' : CmpOp} {r r' : R2} (ho : OpR X (compareOp op) r) (ho' : OpR X (compareOp op') r') (ha : PE X a ta) (hb : PE X b tb) (hc : PE X c tc)
    (hm : lastMarks [op, op'] [b, c] = false := by with_unfolding_all rfl) : PT X (.Compare a [op, op'] [b, c] pos) (tTest (tChain r r' ta tb tc)) := by
  intro pins s σ H Q I h
  refine isTrue_chain (thn (ha pins s σ H _ I h) fun v s1 ⟨x, H1, I1, r1, q1⟩ => test_link (thn (hb pins s1 σ H1 _ I1 q1) fun u s2 ⟨y, H2, I2, r2, q2⟩ =>
    thn (ho pins s2 σ H2 x y v u _ I2 r1 r2 q2) fun d s3 ⟨z, H3, I3, r3, k, e, q3⟩ => ?_)) hm
  subst e
  cases r3
  refine wpAny_truthy_bool ?_
  cases k with
  | false =>
    obtain ⟨k', e', q'⟩ := q3
    cases e'
    exact ite_ff ⟨H3, I3, q'⟩
  | true =>
    refine ite_tt (test_last (thn (hc pins s3 σ H3 _ I3 q3) fun w' s4 ⟨z', H4, I4, r4, q4⟩ => thn (ho' pins s4 σ H4 y z' u w' _ I4 r2 r4 q4) fun d' s5 ⟨z2, H5, I5, r5, k2, e2, q5⟩ => ?_))
    subst e2
    cases r5
    exact wpAny_truthy_bool ⟨H5, I5, q5⟩
def TruV (K : PySem.W.Frag) (x : V) (H : Hp) (k : Bool) : Prop :=
  match x with
  | .non => k = false
  | .bl b => k = b
  | .int i => k = (i != 0)
  | .str y => y.length ≤ sizeLine ∧ k = ((y.length : Int) != 0)
  | .byt y => y.size ≤ sizeLine ∧ k = ((y.size : Int) != 0)
  | .ref p => (∃ xs, SqL K H p xs ∧ k = !xs.isEmpty) ∨ (∃ xs, SqT K H p xs ∧ k = !xs.isEmpty) ∨ ∃ kvs, H p = some (.dK kvs) ∧ k = !kvs.isEmpty
  | _ => False
theorem isEmpty_kv {κ : Type} {kvs : List (κ × V)} {vs : List (κ × Value)} (r : KV kvs vs) : (!vs.isEmpty) = !kvs.isEmpty := by
  cases r <;> rfl
theorem isEmpty_of {xs : List V} {its : List Value} (r : Vals xs its) : (!its.toArray.isEmpty) = !xs.isEmpty := by
  cases r <;> simp
theorem line63 : (sizeLine : Nat) < 2 ^ 63 := by rw [sizeLine_eq]; decide
theorem tru_ok : TruR X (fun x H Q => ∃ k, TruV X.K x H k ∧ Q k H) := by
  intro pins s σ H x v Q I rx h
  obtain ⟨k, e, q⟩ := h
  have hl := line63
  have hs : sizeLine = 16777216 := sizeLine_eq
  cases x with
  | non =>
    cases rx
    have e' : k = false := e
    subst e'
    exact truthy_none ⟨H, I, q⟩
  | bl b =>
    cases rx
    have e' : k = b := e
    subst e'
    exact wpAny_truthy_bool ⟨H, I, q⟩
  | int i =>
    obtain ⟨t, rfl⟩ := rx
    have e' : k = (i != 0) := e
    subst e'
    exact PySem.P.truthy_int ⟨H, I, q⟩
  | str y =>
    obtain ⟨t, rfl⟩ := rx
    obtain ⟨hy, e'⟩ : y.length ≤ sizeLine ∧ k = ((y.length : Int) != 0) := e
    subst e'
    exact PySem.P.truthy_str (by omega) ⟨H, I.tok _, q⟩
  | byt y =>
    obtain ⟨t, rfl⟩ := rx
    obtain ⟨hy, e'⟩ : y.size ≤ sizeLine ∧ k = ((y.size : Int) != 0) := e
    subst e'
    exact PySem.W.truthy_bytes (by omega) ⟨H, I.tok _, q⟩
  | ref p =>
    cases rx
    have e' : (∃ xs, SqL X.K H p xs ∧ k = !xs.isEmpty) ∨ (∃ xs, SqT X.K H p xs ∧ k = !xs.isEmpty) ∨ ∃ kvs, H p = some (.dK kvs) ∧ k = !kvs.isEmpty := e
    rcases e' with ⟨xs, hx, e'⟩ | ⟨xs, hx, e'⟩ | ⟨kvs, hx, e'⟩
    · subst e'
      obtain ⟨its, r, pl, hz⟩ := I.list hx
      have hlen := r.length
      exact wpAny_truthy_list pl.isList (by simp only [List.size_toArray]; omega) ⟨H, I.tok _, by rw [isEmpty_of r]; exact q⟩
    · subst e'
      obtain ⟨its, r, pl, hz⟩ := I.tuple hx
      have hlen := r.length
      exact truthy_tuple pl (by simp only [List.size_toArray]; omega) ⟨H, I.tok _, by rw [isEmpty_of r]; exact q⟩
    · subst e'
      obtain ⟨hz, hS, vs, r, m⟩ : kvs.length ≤ sizeLine ∧ (p == sysModules) = false ∧ ∃ vs, KV kvs vs ∧ s.heap.DictOf (mixKind X.prog X.w) p vs := I.hok p _ hx
      have hlen : kvs.length = vs.length := Paired.length r
      exact wpAny_truthy_dict hS m (by omega) ⟨H, I.tok _, by rw [isEmpty_kv r]; exact q⟩
  | _ => exact (show False from e).elim
theorem pt_truth (ha : PE X a ta) (he : ∀ whole, isTrue a X.env whole = (do let v ← whole; standAt a.pos; holding [v] (truthy v))) :
    PT X a (fun σ H Q => ta σ H fun x H' => ∃ k, TruV X.K x H' k ∧ Q k H') := by
  intro pins s σ H Q I h
  exact isTrue_plain (thn (ha pins s σ H _ I h) fun v s1 ⟨x, H1, I1, r1, q1⟩ => tru_ok pins s1 σ H1 x v Q I1 r1 q1) (he _)
theorem op_add_str : OpR X (binaryOp .Add) (fun x y H Q => ∃ i j, x = .str i ∧ y = .str j ∧ i.length + j.length ≤ sizeLine ∧ Q (.str (i ++ j)) H) := by
  intro pins s σ H x y v u Q I rx ry h
  obtain ⟨i, j, rfl, rfl, hz, q⟩ := h
  obtain ⟨t, rfl⟩ := rx
  obtain ⟨t', rfl⟩ := ry
  exact add_str (fun t' tk => ⟨.str (i ++ j), H, I.tok _, ⟨_, rfl⟩, q⟩) hz
theorem vals1 {x : V} {us : List Value} (r : Vals [x] us) : ∃ u, us = [u] ∧ RelV x u := by
  cases r with
  | cons r1 r2 => cases r2; exact ⟨_, rfl, r1⟩
theorem vals2 {x y : V} {us : List Value} (r : Vals [x, y] us) : ∃ u w', us = [u, w'] ∧ RelV x u ∧ RelV y w' := by
  cases r with
  | cons r1 r2 =>
    cases r2 with
    | cons r3 r4 => cases r4; exact ⟨_, _, rfl, r1, r3⟩
theorem call_min2 (hc : X.calm = true) : CallR X (.builtin "min") (fun xs H Q => ∃ i j, xs = [.int i, .int j] ∧ Q (.int (if j < i then j else i)) H) := by
  intro pins s σ H xs us Q I r h
  obtain ⟨i, j, rfl, q⟩ := h
  obtain ⟨u, w', rfl, ⟨t, rfl⟩, ⟨t', rfl⟩⟩ := vals2 r
  refine min_two_ints (I.ok.hd hc) fun h' tk k => ⟨_, H, I.kept k, ?_, q⟩
  by_cases hj : j < i
  · rw [if_pos hj, if_pos hj]; exact ⟨_, rfl⟩
  · rw [if_neg hj, if_neg hj]; exact ⟨_, rfl⟩
theorem call_bool1 : CallR X (.type "bool") (fun xs H Q => (∃ i, xs = [.int i] ∧ Q (.bl (i != 0)) H) ∨ ∃ k, xs = [.bl k] ∧ Q (.bl k) H) := by
  intro pins s σ H xs us Q I r h
  rcases h with ⟨i, rfl, q⟩ | ⟨k, rfl, q⟩
  · obtain ⟨u, rfl, t, rfl⟩ := vals1 r
    exact call_bool_int ⟨.bl (i != 0), H, I, rfl, q⟩
  · obtain ⟨u, rfl, r1⟩ := vals1 r
    cases r1
    exact call_bool_bool ⟨.bl k, H, I, rfl, q⟩
def LenV (K : PySem.W.Frag) (x : V) (H : Hp) (n : Nat) : Prop :=
  match x with
  | .str y => y.length ≤ sizeLine ∧ n = y.length
  | .byt y => y.size ≤ sizeLine ∧ n = y.size
  | .ref p => (∃ xs, SqL K H p xs ∧ n = xs.length) ∨ ∃ xs, SqT K H p xs ∧ n = xs.length
  | _ => False
theorem call_len : CallR X (.builtin "len") (fun xs H Q => ∃ x n, xs = [x] ∧ LenV X.K x H n ∧ Q (.int n) H) := by
  intro pins s σ H xs us Q I r h
  obtain ⟨x, n, rfl, e, q⟩ := h
  obtain ⟨u, rfl, rx⟩ := vals1 r
  have hl := line63
  have hs : sizeLine = 16777216 := sizeLine_eq
  cases x with
  | str y =>
    obtain ⟨t, rfl⟩ := rx
    obtain ⟨hy, e'⟩ : y.length ≤ sizeLine ∧ n = y.length := e
    subst e'
    exact len_str (by omega) ⟨.int _, H, I.tok _, ⟨_, rfl⟩, q⟩
  | byt y =>
    obtain ⟨t, rfl⟩ := rx
    obtain ⟨hy, e'⟩ : y.size ≤ sizeLine ∧ n = y.size := e
    subst e'
    exact PySem.W.len_bytes (by omega) ⟨.int _, H, I.tok _, ⟨_, rfl⟩, q⟩
  | ref p =>
    cases rx
    have e' : (∃ xs, SqL X.K H p xs ∧ n = xs.length) ∨ ∃ xs, SqT X.K H p xs ∧ n = xs.length := e
    rcases e' with ⟨xs, hx, e'⟩ | ⟨xs, hx, e'⟩
    · subst e'
      obtain ⟨its, r', pl, hz⟩ := I.list hx
      have hlen := r'.length
      exact Calls.call_len_list pl.isList (by simp only [List.size_toArray]; omega) ⟨.int xs.length, H, I.tok _, ⟨_, by simp only [List.size_toArray]; rw [hlen]⟩, q⟩
    · subst e'
      obtain ⟨its, r', pl, hz⟩ := I.tuple hx
      have hlen := r'.length
      exact len_tuple pl (by simp only [List.size_toArray]; omega) ⟨.int xs.length, H, I.tok _, ⟨_, by simp only [List.size_toArray]; rw [hlen]⟩, q⟩
  | _ => exact (show False from e).elim
end
end L2
namespace L2
open PySem PySem.Spec PyProof.Rows
structure ObjM (h : Heap) (x dx C : Addr) (mA : Str → Option Value) : Prop where
  obj : h.get? x = some (PySem.W.instObj C dx)
  ns : h.Ns1 dx mA
  ne : dx ≠ x
theorem lookIn_ns {h : Heap} {dx : Addr} {mA : Str → Option Value} (n : h.Ns1 dx mA) : ∃ od, h.get? dx = some od ∧ ∀ name, PySem.W.lookIn name od = some (mA name) := by
  obtain ⟨o, es, ep, ho, hd, hk, _, hm⟩ := n
  refine ⟨o, ho, fun name => ?_⟩
  have e := hm name
  unfold nsFind findBy at e
  rw [← Array.find?_toList] at e
  unfold PySem.W.lookIn
  rw [hd]
  dsimp only
  split
  · rename_i y q
    rw [q] at e
    exact congrArg some e
  · rename_i q
    rw [q] at e
    have a : es.toList.any (·.refKey) = false := by
      rw [List.any_eq_false]
      intro y hy
      obtain ⟨z, t, hkey⟩ := hk y (Array.mem_toList_iff.mp hy)
      simp [DictEntry.refKey, hkey]
    have a' : ¬ es.toList.any (·.refKey) = true := by rw [a]; exact Bool.false_ne_true
    rw [if_neg a']
    exact congrArg some e
theorem ObjM.look {h : Heap} {x dx C : Addr} {mA : Str → Option Value} (I : ObjM h x dx C mA) : ∃ od, PySem.W.InstAt h x (PySem.W.instObj C dx) C (some od) ∧ ∀ name, PySem.W.lookIn name od = some (mA name) :=
  let ⟨od, ho, hl⟩ := lookIn_ns I.ns
  ⟨od, ⟨I.obj, rfl, rfl, ho⟩, hl⟩
section
variable {prog : Program} {w : World} {A : Around} {E : Value → Shared → Prop} {s : Shared} {K : PySem.W.Frag} {x dx C f : Addr} {mA : Str → Option Value} {name : Str} {v : Value}
end
theorem RelO.some_of {v : V} {o : Option Value} (r : RelO (some v) o) : ∃ u, o = some u ∧ RelV v u := by
  cases o with
  | none => exact (show False from r).elim
  | some u => exact ⟨u, rfl, r⟩
section
variable {P : Program} {w : World} {H H' : Hp} {h h' : Heap} {a C dx : Addr} {fs fs' : List (Str × V)}
theorem ins_get (hok : HOk P w H h) (e : H a = some (.ins C dx fs)) : ∃ mA, ObjM h a dx C mA ∧ (∀ f, RelO (fs.lookup f) (mA f)) ∧ PySem.Within mA (fs.map (·.1)) ∧ fs.length ≤ 1000 ∧ H dx = some (.own a) := by
  obtain ⟨d, z, ne, ob, mA, n, r, q⟩ := (show ObjOk P w H h a (.ins C dx fs) from hok a _ e)
  exact ⟨mA, ⟨ob, n, ne⟩, r, q, z, d⟩
end
structure Cls (K : PySem.W.Frag) (C : Addr) : Prop where
  pg : PySem.W.plainGet K C Str.empty = true
  hd : PySem.W.hasDictIn K C = true
  po : PySem.W.plainOver K C = true
  sa : PySem.W.findIn K (.ref C) "__setattr__" = some (some (.builtin "object.__setattr__"))
theorem Cls.get {K : PySem.W.Frag} {C : Addr} (c : Cls K C) (f : Str) : PySem.W.plainGet K C f = true := c.pg
section
variable {X : Cx} {pins : List (Addr × Obj)} {σ : St} {H : Hp} {s : Shared} {a C dx : Addr} {fs : List (Str × V)} {f : Str} {v : V} {A : Around} {E : Value → Shared → Prop}
end
section
variable {X : Cx} {o e value : Expr} {f : Str} {pos pos' tpos : Pos} {ta tv : TE}
end
section
variable {X : Cx} {pins : List (Addr × Obj)} {σ : St} {H : Hp} {s : Shared} {A : Around} {E : Value → Shared → Prop} {Q : Value → Shared → Prop} {c : Value} {b : Bool}
inductive TyOf (K : PySem.W.Frag) (H : Hp) : V → Value → Prop where
  | non : TyOf K H .non (.type "NoneType")
  | bl (x : Bool) : TyOf K H (.bl x) (.type "bool")
  | int (i : Int) : TyOf K H (.int i) (.type "int")
  | str (x : Str) : TyOf K H (.str x) (.type "str")
  | flt (x : UInt64) : TyOf K H (.flt x) (.type "float")
  | lst {a : Addr} {xs : List V} (e : H a = some (.lst xs)) : TyOf K H (.ref a) (.type "list")
  | frz {a : Addr} {o : Obj} {xs : List V} (e : H a = some (.frz o (.lst xs))) : TyOf K H (.ref a) (.type "list")
  | tup {a : Addr} {xs : List V} (e : H a = some (.tup xs)) : TyOf K H (.ref a) (.type "tuple")
  | dK {a : Addr} {kvs : List (Key × V)} (e : H a = some (.dK kvs)) : TyOf K H (.ref a) (.type "dict")
  | dT {a : Addr} {kvs : List (List Key × V)} (e : H a = some (.dT kvs)) : TyOf K H (.ref a) (.type "dict")
  | ins {a C dx : Addr} {fs : List (Str × V)} (e : H a = some (.ins C dx fs)) (cl : Cls K C) (ha : PySem.W.findIn K (.ref C) "__class__" = some (some (.builtin "object.__class__")))
      (hn : PySem.W.specialIn K (.builtin "object.__class__") "__get__" = some (some (.builtin "getset_descriptor.__get__"))) (htk : PySem.W.takesIn K (.builtin "object.__class__") = some true)
      (hm : PySem.W.mroIn K C (.type "object") = some true) : TyOf K H (.ref a) (.ref C)
theorem isinst_ok {x : V} {u t : Value} (I : Inv X pins σ H s) (rx : RelV x u) (ty : TyOf X.K H x t) (e : PySem.W.kitOne X.K t c = some b) (h : ∀ tk, Q (.bool b) { s with toks := tk }) :
    wpAny (model X.prog X.w) A (call (.builtin "isinstance") [u, c]) Q E s := by
  cases ty with
  | non => cases (show u = Value.none from rx); exact PySem.W.kia_one PySem.W.kitx_none I.kIn True.intro e (fun z => nomatch z) h
  | bl y => cases (show u = Value.bool y from rx); exact PySem.W.kia_one PySem.W.kitx_bool I.kIn True.intro e (fun z => nomatch z) h
  | int i => obtain ⟨t, q⟩ := (show ∃ t, u = Value.int i t from rx); cases q; exact PySem.W.kia_one PySem.W.kitx_int I.kIn True.intro e (fun z => nomatch z) h
  | str y => obtain ⟨t, q⟩ := (show ∃ t, u = Value.str y t from rx); cases q; exact PySem.W.kia_one PySem.W.kitx_str I.kIn True.intro e (fun z => nomatch z) h
  | flt y => obtain ⟨t, q⟩ := (show ∃ t, u = Value.float y t from rx); cases q; exact PySem.W.kia_one PySem.W.kitx_float I.kIn True.intro e (fun z => nomatch z) h
  | @lst a xs ea =>
    cases (show u = Value.ref a from rx)
    obtain ⟨_, _, n, _, h1⟩ := (show ObjOk X.prog X.w H s.heap a (.lst xs) from I.hok a _ ea)
    exact PySem.W.kia_one PySem.W.kitx_list I.kIn ⟨_, h1, rfl⟩ e (fun z => nomatch z) h
  | @frz a ob xs ea =>
    cases (show u = Value.ref a from rx)
    obtain ⟨_, _, _, n, _, h1⟩ := (show ObjOk X.prog X.w H s.heap a (.frz ob (.lst xs)) from I.hok a _ ea)
    exact PySem.W.kia_one PySem.W.kitx_list I.kIn ⟨_, h1, rfl⟩ e (fun z => nomatch z) h
  | @tup a xs ea =>
    cases (show u = Value.ref a from rx)
    obtain ⟨_, _, _, p⟩ := (show ObjOk X.prog X.w H s.heap a (.tup xs) from I.hok a _ ea)
    obtain ⟨o, h1, h2, _⟩ := p
    exact PySem.W.kia_one PySem.W.kitx_tuple I.kIn ⟨o, h1, h2⟩ e (fun z => nomatch z) h
  | @dK a kvs ea =>
    cases (show u = Value.ref a from rx)
    obtain ⟨_, _, vs, _, p⟩ := (show ObjOk X.prog X.w H s.heap a (.dK kvs) from I.hok a _ ea)
    obtain ⟨o, es, ep, h1, h2, _⟩ := p
    exact PySem.W.kia_one PySem.W.kitx_dict I.kIn ⟨o, h1, h2.1⟩ e (fun z => nomatch z) h
  | @dT a kvs ea =>
    cases (show u = Value.ref a from rx)
    obtain ⟨_, _, xs, _, o, es, ep, h1, h2, _⟩ := (show ObjOk X.prog X.w H s.heap a (.dT kvs) from I.hok a _ ea)
    exact PySem.W.kia_one PySem.W.kitx_dict I.kIn ⟨o, h1, h2.1⟩ e (fun z => nomatch z) h
  | @ins a C dx fs ea cl ha hn htk hm =>
    cases (show u = Value.ref a from rx)
    obtain ⟨mA, O, _⟩ := ins_get I.hok ea
    obtain ⟨od, J, _⟩ := O.look
    exact PySem.W.kia_one (PySem.W.kitx_own (cl.get _) cl.hd ha hn htk hm) I.kIn J e (fun z => nomatch z) h
end
end L2
namespace L2
open PySem PySem.Spec PyProof.Rows
structure Room (k : Nat) (A : Around) : Prop where
  hd : A.handled = none
  dp : A.depth + 3 * k + 5 < recursionLimit
  un : A.units + 16 * k + 200 < cLine
  gd : A.guards = some []
theorem Room.mono {j k : Nat} {A : Around} (r : Room k A) (h : j ≤ k) : Room j A := ⟨r.hd, by have := r.dp; omega, by have := r.un; omega, r.gd⟩
theorem Room.deeper {k : Nat} {A : Around} (r : Room (k + 1) A) (env : Env) : Room k (A.deeper env) :=
  ⟨r.hd, by have := r.dp; show A.depth + 1 + 3 * k + 5 < _; omega, by have := r.un; show A.units + 3 + 16 * k + 200 < _; omega, r.gd⟩
theorem Room.in1 {k : Nat} {A : Around} (r : Room (k + 1) A) : Room k A.in1 :=
  ⟨r.hd, by have := r.dp; show A.depth + 3 * k + 5 < _; omega, by have := r.un; show A.units + 1 + 16 * k + 200 < _; omega, r.gd⟩
theorem Room.depth {k : Nat} {A : Around} (r : Room k A) : A.depth < recursionLimit := by have := r.dp; omega
theorem Room.units {k : Nat} {A : Around} (r : Room k A) : A.units + 64 < cLine := by have := r.un; omega
def tNil : TA := fun _ H Q => Q [] H
def tCons (ta : TE) (tr : TA) : TA := fun σ H Q => ta σ H fun x H1 => tr σ H1 fun xs H2 => Q (x :: xs) H2
section
variable {X : Cx} {e : Expr} {es : List Expr} {te : TE} {t : TA} {pos : Pos}
theorem pa_nil : PA X [] tNil := fun _ _ _ _ H Q I h => Calls.spliced_nil ⟨[], H, I, .nil, h⟩
theorem pa_cons (ha : PE X e te) (hr : PA X es t) (hs : starEach (e :: es) X.env = (false, eval e X.env) :: starEach es X.env := by rfl) : PA X (e :: es) (tCons te t) := by
  intro pos pins s σ H Q I h
  rw [hs]
  show wpAny _ _ (spliced ((false, eval e X.env) :: backTo pos (starEach es X.env))) _ _ s
  refine Calls.spliced_cons (thn (ha pins s σ H _ I h) fun u s1 ⟨x, H1, I1, r1, q1⟩ => ?_)
  exact thn (hr pos pins s1 σ H1 _ I1 q1) fun us s2 ⟨xs, H2, I2, r2, q2⟩ => ⟨x :: xs, H2, I2, .cons r1 r2, q2⟩
def tTup (t : TA) : TE := fun σ H Q => t σ H fun xs H1 => xs.length ≤ sizeLine ∧ ∀ p, H1 p = none → Q (.ref p) (upd H1 p (.tup xs))
def tLst (t : TA) : TE := fun σ H Q => t σ H fun xs H1 => xs.length ≤ sizeLine ∧ ∀ p, H1 p = none → Q (.ref p) (upd H1 p (.lst xs))
theorem pe_tup {x1} (h : PA X es t) : PE X (.Tuple es x1 pos) (tTup t) := by
  intro pins s σ H Q I hq
  refine wpAny_Tuple_spliced (thn (h pos pins s σ H _ I hq) fun us s1 ⟨xs, H1, I1, r, z, q⟩ => ⟨by rw [← r.length]; exact z, ?_⟩)
  have hf : H1 s1.heap.objs.size = none := I1.hok.fresh (Nat.le_refl _)
  refine ⟨.ref s1.heap.objs.size, upd H1 s1.heap.objs.size (.tup xs), I1.laid (t' := s1.toks) (fun b u e => Heap.get?_push_of_some _ e) (Nat.le_refl _) ?_, rfl, q _ hf⟩
  exact ⟨z, us, r, ⟨_, Heap.get?_push_size _ rfl, rfl, _, rfl⟩⟩
theorem pe_lst (h : PA X es t) : PE X (.List es pos) (tLst t) := by
  intro pins s σ H Q I hq
  refine wpAny_List_spliced (thn (h pos pins s σ H _ I hq) fun us s1 ⟨xs, H1, I1, r, z, q⟩ => ⟨by rw [← r.length]; exact z, ?_⟩)
  have hf : H1 s1.heap.objs.size = none := I1.hok.fresh (Nat.le_refl _)
  refine ⟨.ref s1.heap.objs.size, upd H1 s1.heap.objs.size (.lst xs), I1.laid (t' := s1.toks) (fun b u e => Heap.get?_push_of_some _ e) (Nat.le_refl _) ?_, rfl, q _ hf⟩
  exact ⟨z, us, 0, r, Heap.get?_push_size _ rfl⟩
end
abbrev Sp := List V → Hp → VK → XK → Prop
abbrev CXT := List Env → Hp → Shared → XK → Value → Shared → Prop
structure Env0 (P : Program) (w : World) (K : PySem.W.Frag) (mg : Str → Option Value) (base : Heap) (A : Around) (outer : List Env) (s : Shared) (H : Hp) : Prop where
  frames : A.frames = some outer
  mod : Mod K mg base
  bs : ∀ b o, base.get? b = some o → s.heap.get? b = some o ∧ H b = none
  bsz : base.objs.size ≤ s.heap.objs.size
  funs : s.heap.FunFrames base outer
  frf : ∀ b ∈ frs outer, H b = none
  hok : HOk P w H s.heap
  bare : AllBare s.gens
def CE (outer : List Env) (P : Program) (w : World) (H : Hp) (s : Shared) (Q : VK) (u : Value) (s' : Shared) : Prop :=
  ∃ v H', s'.os = s.os ∧ AllBare s'.gens ∧ Un (frs outer) [] H H' s.heap s'.heap ∧ HOk P w H' s'.heap ∧ RelV v u ∧ Q v H'
def CR (CX : CXT) (outer : List Env) (P : Program) (w : World) (H : Hp) (s : Shared) (Q : VK) (E : XK) (r : Result) (s' : Shared) : Prop :=
  match r with
  | .ok (.ret u) => CE outer P w H s Q u s'
  | .ok _ => False
  | .error e => CX outer H s E e s'
structure FnOk (P : Program) (w : World) (K : PySem.W.Frag) (mg : Str → Option Value) (base : Heap) (CX : CXT) (k : Nat) (f : Addr) (fd : FuncData) (ps : List Str) (sp : Sp) : Prop where
  len : ∀ vs H Q E, sp vs H Q E → vs.length = ps.length
  run : ∀ (A : Around) (outer : List Env) (s : Shared) (H : Hp) (args : Args) (us : List Value) (vs : List V) (Q : VK) (E : XK), Room k A → Env0 P w K mg base A outer s H → BindsTo s fd args (ps.zip us) → Vals vs us → sp vs H Q E →
    codeAny (model P w) A (.call (.ref f) args) (CR CX outer P w H s Q E) s
theorem FnOk.mono {P : Program} {w : World} {K : PySem.W.Frag} {mg : Str → Option Value} {base : Heap} {CX : CXT} {j k : Nat} {f : Addr} {fd : FuncData} {ps : List Str} {sp : Sp} (F : FnOk P w K mg base CX j f fd ps sp) (h : j ≤ k) :
    FnOk P w K mg base CX k f fd ps sp := ⟨F.len, fun A outer s H args us vs Q E hr => F.run A outer s H args us vs Q E (hr.mono h)⟩
theorem FnOk.imp {P : Program} {w : World} {K : PySem.W.Frag} {mg : Str → Option Value} {base : Heap} {CX : CXT} {k : Nat} {f : Addr} {fd : FuncData} {ps : List Str} {sp sp' : Sp} (F : FnOk P w K mg base CX k f fd ps sp)
    (h : ∀ vs H Q E, sp' vs H Q E → sp vs H Q E) : FnOk P w K mg base CX k f fd ps sp' :=
  ⟨fun vs H Q E q => F.len vs H Q E (h _ _ _ _ q), fun A outer s H args us vs Q E hr he hb hv hs => F.run A outer s H args us vs Q E hr he hb hv (h _ _ _ _ hs)⟩
theorem Env0.in1 {P : Program} {w : World} {K : PySem.W.Frag} {mg : Str → Option Value} {base : Heap} {A : Around} {outer : List Env} {s : Shared} {H : Hp} (e : Env0 P w K mg base A outer s H) :
    Env0 P w K mg base A.in1 outer s H := ⟨e.frames, e.mod, e.bs, e.bsz, e.funs, e.frf, e.hok, e.bare⟩
section
variable {X : Cx} {pins : List (Addr × Obj)} {σ : St} {H : Hp} {s s' : Shared}
theorem Inv.env0 (I : Inv X pins σ H s) : Env0 X.prog X.w X.K X.mg X.base X.A X.stack s H :=
  ⟨I.ok.frames, I.ok.mod, I.bs, Nat.le_trans I.ok.bsz I.sz, I.stack, I.stkFree, I.hok, I.bare⟩
theorem Inv.after {Q : VK} {u : Value} (I : Inv X pins σ H s) (h : CE X.stack X.prog X.w H s Q u s') : EP X pins σ Q u s' := by
  obtain ⟨v, H', os, bare, un, hok, r, q⟩ := h
  obtain ⟨hh, g, d, t, os'⟩ := s'
  obtain rfl : os' = s.os := os
  exact ⟨v, H', I.call (h' := hh) (g' := g) (d' := d) (t' := t) (ch := []) un hok bare (fun b z => absurd z (by simp)), r, q⟩
end
def tCall (sp : Sp) (dvs : List V) (E : XK) (t : TA) : TE := fun σ H Q => t σ H fun vs H1 => sp (vs ++ dvs) H1 Q E
def Binds (K : PySem.W.Frag) (fd : FuncData) (ps : List Str) (ds : List Value) : Prop :=
  ∀ (s : Shared) (us : List Value), K.In s.heap → (us ++ ds).length = ps.length → BindsTo s fd ⟨us, []⟩ (ps.zip (us ++ ds))
theorem Binds.all {K : PySem.W.Frag} {fd : FuncData} {ps : List Str} (h : ∀ us : List Value, us.length = ps.length → bindArgs fd ⟨us, []⟩ = pure (ps.zip us)) : Binds K fd ps [] := fun s us _ hl => by
  rw [List.append_nil] at hl ⊢
  exact .of_eq (h us hl)
def Passes (CX : CXT) (X : Cx) (E : XK) : Prop := ∀ (pins : List (Addr × Obj)) (σ : St) (H : Hp) (s : Shared) (e : Value) (s' : Shared), Inv X pins σ H s → CX X.stack H s E e s' → X.xe e s'
section
variable {X : Cx} {CX : CXT} {k : Nat} {f C : Addr} {fd : FuncData} {ps : List Str} {sp : Sp} {dvs : List V} {ds : List Value} {E : XK} {x m : Str} {p pos apos : Pos} {e o : Expr} {es : List Expr} {ta : TE} {t : TA}
theorem run_fn {pins : List (Addr × Obj)} {σ : St} {H : Hp} {s : Shared} {Q : VK} {us : List Value} {vs : List V} (F : FnOk X.prog X.w X.K X.mg X.base CX k f fd ps sp) (hr : Room k X.A) (hb : Binds X.K fd ps ds) (hd : Vals dvs ds) (hx : Passes CX X E)
    (I : Inv X pins σ H s) (r : Vals vs us) (h : sp (vs ++ dvs) H Q E) : wpAny (model X.prog X.w) X.A (call (.ref f) us) (EP X pins σ Q) X.xe s := by
  have r2 : Vals (vs ++ dvs) (us ++ ds) := r.append hd
  have hl : (us ++ ds).length = ps.length := by rw [← r2.length]; exact F.len _ _ _ _ h
  refine wpAny_call (codeAny_mono (F.run X.A X.stack s H ⟨us, []⟩ (us ++ ds) (vs ++ dvs) Q E hr I.env0 (hb s us I.kIn hl) r2 h) fun r s' hq => ?_)
  cases r with
  | error e => exact hx pins σ H s e s' I hq
  | ok fl =>
    cases fl with
    | ret u => exact I.after hq
    | next => exact False.elim hq
    | brk => exact False.elim hq
    | cont => exact False.elim hq
theorem pe_call (F : FnOk X.prog X.w X.K X.mg X.base CX k f fd ps sp) (hr : Room k X.A) (hg : Gl X x) (hm : X.mg x = some (.ref f)) (hk : PySem.W.keepIn X.K (.ref f) = true) (hb : Binds X.K fd ps ds) (hd : Vals dvs ds) (hx : Passes CX X E)
    (ha : PA X (e :: es) t) (hdb : (x == ("__debug__" : Str)) = false := by decide) (he : starEach (e :: es) X.env = (false, eval e X.env) :: starEach es X.env := by rfl) (hpl : (backTo pos (starEach es X.env)).any (·.1) = false := by rfl) :
    PE X (.Call (.Name x p) (e :: es) [] pos) (tCall sp dvs E t) := by
  intro pins s σ H Q I h
  refine wpAny_Call_Name_kw (ld_glob I hg hm ?_ hdb)
  refine PySem.W.callWith_K (h₀ := X.base) I.ok.mod.kin hk (thn (ha pos pins s σ H _ I h) fun us s1 ⟨vs, H1, I1, r, q⟩ => ⟨I1.kIn, ?_⟩) he hpl
  exact run_fn F hr hb hd hx I1 r q
end
section
variable {X : Cx} {CX : CXT} {k : Nat} {f C : Addr} {fd : FuncData} {ps ks : List Str} {sp : Sp} {E : XK} {x m : Str} {p pos apos kpos : Pos} {e o : Expr} {es : List Expr} {kws : List Keyword} {te ta : TE} {t tk : TA} {nm : Option Str}
variable {g : List Value → List Value → List Value} {gV : List V → List V → List V}
end
structure FnScope (N P : List Str) (sc : Scope) : Prop where
  kind : sc.kind = .function
  co : sc.isCoroutine = false
  gen : sc.isGenerator = false
  nd : N.Nodup
  pre : N.take P.length = P
  par : ∀ x ∈ P, sc.names.lookup x = some .local ∨ sc.names.lookup x = some .cell
  nofree : ∀ y ∈ sc.names, y.2 ≠ .free
theorem bindL_out {kindOf : Str → Option NameKind} {x : Str} : ∀ {binds : List (Str × Value)} {m : Str → Option Value}, (∀ v, (x, v) ∉ binds) → bindL kindOf binds m x = m x
  | [], _, _ => rfl
  | (n, v) :: r, m, h => by
    unfold bindL
    rw [bindL_out fun w hw => h w (List.mem_cons_of_mem _ hw)]
    split
    · have : x ≠ n := by rintro rfl; exact h v List.mem_cons_self
      simp [this]
    · rfl
theorem bindC_out {kindOf : Str → Option NameKind} {x : Str} : ∀ {binds : List (Str × Value)} {m : Str → Option Value}, (∀ v, (x, v) ∉ binds) → bindC kindOf binds m x = m x
  | [], _, _ => rfl
  | (n, v) :: r, m, h => by
    unfold bindC
    rw [bindC_out fun w hw => h w (List.mem_cons_of_mem _ hw)]
    split
    · rfl
    · have : x ≠ n := by rintro rfl; exact h v List.mem_cons_self
      simp [this]
theorem bindL_get {kindOf : Str → Option NameKind} {x : Str} {v : Value} : ∀ {P : List Str} {vs : List Value} {i : Nat} {m : Str → Option Value}, P.Nodup → P[i]? = some x → vs[i]? = some v → kindOf x = some .local →
    bindL kindOf (P.zip vs) m x = some v
  | [], _, _, _, _, h, _, _ => by simp at h
  | _ :: _, [], _, _, _, _, h, _ => by simp at h
  | p :: P, w :: vs, 0, m, nd, h1, h2, hk => by
    simp at h1 h2; subst h1; subst h2
    show bindL kindOf ((p, w) :: P.zip vs) m p = _
    unfold bindL
    rw [bindL_out fun v hv => (List.nodup_cons.mp nd).1 (List.of_mem_zip hv).1, if_pos hk]
    simp
  | p :: P, w :: vs, i + 1, m, nd, h1, h2, hk => by
    show bindL kindOf ((p, w) :: P.zip vs) m x = _
    unfold bindL
    exact bindL_get (i := i) (List.nodup_cons.mp nd).2 (by simpa using h1) (by simpa using h2) hk
theorem bindC_get {kindOf : Str → Option NameKind} {x : Str} {v : Value} : ∀ {P : List Str} {vs : List Value} {i : Nat} {m : Str → Option Value}, P.Nodup → P[i]? = some x → vs[i]? = some v → kindOf x ≠ some .local →
    bindC kindOf (P.zip vs) m x = some v
  | [], _, _, _, _, h, _, _ => by simp at h
  | _ :: _, [], _, _, _, _, h, _ => by simp at h
  | p :: P, w :: vs, 0, m, nd, h1, h2, hk => by
    simp at h1 h2; subst h1; subst h2
    show bindC kindOf ((p, w) :: P.zip vs) m p = _
    unfold bindC
    rw [bindC_out fun v hv => (List.nodup_cons.mp nd).1 (List.of_mem_zip hv).1, if_neg hk]
    simp
  | p :: P, w :: vs, i + 1, m, nd, h1, h2, hk => by
    show bindC kindOf ((p, w) :: P.zip vs) m x = _
    unfold bindC
    exact bindC_get (i := i) (List.nodup_cons.mp nd).2 (by simpa using h1) (by simpa using h2) hk
def start (N : List Str) (vs : List V) : St := vs.map some ++ List.replicate (N.length - vs.length) none
def cxOf (CX : CXT) (P : Program) (w : World) (K : PySem.W.Frag) (mg : Str → Option Value) (base : Heap) (N : List Str) (qual : Str) (scope : Scope) (f : Addr) (cd : Value) (A : Around) (outer : List Env) (s : Shared) (H : Hp) (E : XK) : Cx where
  prog := P
  w := w
  K := K
  mg := mg
  base := base
  A := A.deeper (envOfC qual scope s.heap.objs.size f cd)
  N := N
  s₀ := s
  H₀ := H
  env := envOfC qual scope s.heap.objs.size f cd
  outer := outer
  stack := envOfC qual scope s.heap.objs.size f cd :: outer
  ex := []
  calm := true
  fn := fun _ => true
  pn := []
  xe := fun e s' => wpAny (model P w) (A.deeper (envOfC qual scope s.heap.objs.size f cd)) (leaving (envOfC qual scope s.heap.objs.size f cd) e) (fun _ s'' => CX outer H s E e s'') (fun e' s'' => CX outer H s E e' s'') s'
theorem cell_has {sc : Scope} {n : Nat} {x : Str} (h : sc.names.lookup x = some .cell) : ∃ c, (cellsFrom n sc.names []).lookup x = some c := by
  have q := PySem.W.cellsFrom_some sc.names n [] (.inl h)
  exact Option.isSome_iff_exists.mp q
theorem inv_start {CX : CXT} {P : Program} {w : World} {K : PySem.W.Frag} {mg : Str → Option Value} {base : Heap} {N ps : List Str} {qual : Str} {scope : Scope} {f : Addr} {cd : Value} {A : Around} {outer : List Env} {s s1 : Shared} {H : Hp} {E : XK} {us : List Value} {vs : List V}
    (S : FnScope N ps scope) (hd : A.handled = none) (e0 : Env0 P w K mg base A outer s H) (hl : vs.length = ps.length) (r : Vals vs us)
    (x : InCallC s s.heap.objs.size (bindL (envOfC qual scope s.heap.objs.size f cd).kindOf (ps.zip us) fun _ => none) (cellsFrom (s.heap.objs.size + 1) scope.names []) (bindC (envOfC qual scope s.heap.objs.size f cd).kindOf (ps.zip us) fun _ => none) s1) :
    Inv (cxOf CX P w K mg base N qual scope f cd A outer s H E) [] (start N vs) H s1 := by
  have hpl : ps.length ≤ N.length := by have := congrArg List.length S.pre; rw [List.length_take] at this; omega
  obtain ⟨h1, tk, rfl, hk⟩ := x.done
  have noA : ∀ b : Addr, b ∉ (cxOf CX P w K mg base N qual scope f cd A outer s H E).ex := fun b z => absurd (show b ∈ ([] : List Addr) from z) (by simp)
  refine ⟨⟨e0.mod, S.kind, rfl, rfl, Nat.le_refl _, fun y z c h1 h2 => ?_, fun y hy => ?_, fun y c _ h => ?_, fun _ => hd, Around.frames_deeper e0.frames, .inr ⟨rfl, rfl⟩, fun b z => absurd z (noA b), e0.bs, e0.bsz, fun b _ _ => noA b, fun b z => absurd z (noA b), e0.funs, e0.frf⟩,
    rfl, e0.bare, Un.kept hk, ⟨_, x.toInCall.ns, fun i y v h1 h2 h3 => ?_⟩, fun y c h => ⟨_, x.cell y c h⟩, e0.hok.fresh (Nat.le_refl _), fun y c h => ?_, fun p hp => absurd (show p ∈ ([] : List (Addr × Obj)) from hp) (by simp), e0.hok.kept hk, ?_⟩
  · exact name_of_addr x.apart (PySem.mem_of_lookup h1) (PySem.mem_of_lookup h2)
  · have hy : scope.names.lookup y = some .cell ∨ scope.names.lookup y = some .free := hy
    rcases hy with hy | hy
    · exact cell_has hy
    · exact absurd rfl (S.nofree _ (PySem.mem_of_lookup hy))
  · exact Nat.le_of_lt (x.above y c (PySem.mem_of_lookup h))
  · have hi : i < vs.length := by
      unfold start at h2
      by_cases hi : i < vs.length
      · exact hi
      · rw [List.getElem?_append_right (by simpa using hi)] at h2
        rw [List.getElem?_replicate] at h2
        split at h2 <;> cases h2
    have ha : vs[i]? = some v := by
      unfold start at h2
      rw [List.getElem?_append_left (by simpa using hi), List.getElem?_map] at h2
      cases e : vs[i]? with
      | none => rw [e] at h2; cases h2
      | some a => rw [e] at h2; cases h2; rfl
    obtain ⟨u, hu, rv⟩ := r.get ha
    have hp : ps[i]? = some y := by
      rw [← S.pre, List.getElem?_take_of_lt (by omega)]; exact h1
    have ndP : ps.Nodup := by rw [← S.pre]; exact S.nd.sublist (List.take_sublist _ _)
    refine ⟨u, rv, ?_⟩
    rcases S.par y (List.mem_of_getElem? hp) with k | k
    · exact .inl ⟨k, bindL_get ndP hp hu k⟩
    · obtain ⟨c, e⟩ := cell_has (n := s.heap.objs.size + 1) k
      refine .inr ⟨.inl k, c, e, ?_⟩
      have q := x.cell y c e
      rw [bindC_get ndP hp hu (by show scope.names.lookup y ≠ _; rw [k]; decide)] at q
      exact q
  · exact e0.hok.fresh (Nat.le_of_lt (x.above y c (PySem.mem_of_lookup h)))
  · unfold start
    show _ = N.length
    rw [List.length_append, List.length_map, List.length_replicate]
    omega
theorem fn_of {CX : CXT} {P : Program} {w : World} {K : PySem.W.Frag} {mg : Str → Option Value} {base : Heap} {k : Nat} {f : Addr} {name qual : Str} {params : Arguments} {body : List Stmt} {scope : Scope} {dV kV doc pm cdv ct oc : Value} {an od : Option Addr}
    {osl : Array (Option Value)} {N ps : List Str} {sp : Sp} (lk : K.lookup f = some ⟨oc, od, .func (PySem.W.fnOf name qual params body scope dV kV doc pm an cdv ct), osl⟩) (hcd : PySem.W.codeIn K cdv qual = true) (S : FnScope N ps scope)
    (len : ∀ vs H Q E, sp vs H Q E → vs.length = ps.length)
    (hbody : ∀ (A : Around) (outer : List Env) (s : Shared) (H : Hp) (vs : List V) (Q : VK) (E : XK), Room k (A.deeper (envOfC qual scope s.heap.objs.size f cdv)) → sp vs H Q E →
      ∃ t, PSs (cxOf CX P w K mg base N qual scope f cdv A outer s H E) body t ∧ t { nx := fun _ H' => Q .non H', rt := Q } (start N vs) H) :
    FnOk P w K mg base CX (k + 1) f (PySem.W.fnOf name qual params body scope dV kV doc pm an cdv ct) ps sp := by
  refine ⟨len, fun A outer s H args us vs Q E hr e0 hb r hsp => ?_⟩
  have hl := len _ _ _ _ hsp
  have KX : K.In s.heap := e0.mod.kin.keeps fun b o e => (e0.bs b o e).1
  have lim : s.heap.NoLimit := e0.mod.nolimit.keeps fun b o e => (e0.bs b o e).1
  have hkind : ∀ y ∈ ps.zip us, scope.names.lookup y.1 = some .local ∨ (scope.names.lookup y.1 = some .cell ∧ ((cellsFrom (s.heap.objs.size + 1) scope.names []).lookup y.1).isSome = true) := fun ⟨n, v⟩ hy => by
    rcases S.par n (List.of_mem_zip hy).1 with q | q
    · exact .inl q
    · exact .inr ⟨q, PySem.W.cellsFrom_some _ _ _ (.inl q)⟩
  refine codeAny_call_function hr.depth (KX _ _ lk) rfl S.co S.gen rfl (PySem.W.codeRec_of KX hcd) (hb _ _ _ _ ?_)
  refine wpAny_newFunctionEnv_cells S.kind hkind fun env he s1 x => ?_
  subst he
  refine ⟨lim.keeps x.toInCall.keep, codeAny_func ?_⟩
  obtain ⟨t, ht, hq⟩ := hbody A outer s H vs Q E (hr.deeper _) hsp
  have I : Inv (cxOf CX P w K mg base N qual scope f cdv A outer s H E) [] (start N vs) H s1 := inv_start S hr.hd e0 hl r x
  refine wpAny_mono (ht [] s1 (start N vs) H _ I hq) (fun fl s' hs => ?_) fun e s' hs => hs
  have fin : ∀ {σ' : St} {H' : Hp} {v : V} {u : Value}, Inv (cxOf CX P w K mg base N qual scope f cdv A outer s H E) [] σ' H' s' → RelV v u → Q v H' → CE outer P w H s Q u s' :=
    fun {σ' H' v u} J rv q => ⟨v, H', J.os, J.bare, J.base, J.hok, rv, q⟩
  cases fl with
  | ret u =>
    obtain ⟨v, σ', H', J, rv, q⟩ := hs
    exact fin J rv q
  | next =>
    obtain ⟨σ', H', J, q⟩ := hs
    exact fin (v := V.non) (u := Value.none) J rfl q
  | brk =>
    obtain ⟨_, _, _, q⟩ := hs
    exact False.elim q
  | cont =>
    obtain ⟨_, _, _, q⟩ := hs
    exact False.elim q
end L2
namespace L2
open PySem PySem.Spec PyProof.Rows
section
variable {X : Cx} {x : Str} {p pos : Pos} {e : Expr} {es : List Expr} {t : TA} {id T : String} {r : List V → Hp → VK → Prop}
def tCB (r : List V → Hp → VK → Prop) (t : TA) : TE := fun σ H Q => t σ H fun vs H1 => r vs H1 Q
theorem pe_callB (hc : CallR X (.builtin id) r) (hg : Gl X x) (hm : X.mg x = none) (hv : bootBuiltins x = some (.builtin id)) (ha : PA X (e :: es) t) (hn : x ≠ "__name__" := by decide) (hdb : (x == ("__debug__" : Str)) = false := by decide)
    (he : starEach (e :: es) X.env = (false, eval e X.env) :: starEach es X.env := by rfl) (hpl : (backTo pos (starEach es X.env)).any (·.1) = false := by rfl) : PE X (.Call (.Name x p) (e :: es) [] pos) (tCB r t) := by
  intro pins s σ H Q I h
  refine wpAny_Call_Name_kw (ld_blt I hg hm hv ?_ hn hdb)
  exact PyProof.Rows.callWith_builtin1 (thn (ha pos pins s σ H _ I h) fun us s1 ⟨vs, H1, I1, r1, q1⟩ => hc pins s1 σ H1 vs us Q I1 r1 q1) he hpl
theorem pe_callTy (hc : CallR X (.type T) r) (hg : Gl X x) (hm : X.mg x = none) (hv : bootBuiltins x = some (.type T)) (ha : PA X (e :: es) t) (hn : x ≠ "__name__" := by decide) (hdb : (x == ("__debug__" : Str)) = false := by decide)
    (he : starEach (e :: es) X.env = (false, eval e X.env) :: starEach es X.env := by rfl) (hpl : (backTo pos (starEach es X.env)).any (·.1) = false := by rfl) : PE X (.Call (.Name x p) (e :: es) [] pos) (tCB r t) := by
  intro pins s σ H Q I h
  refine wpAny_Call_Name_kw (ld_blt I hg hm hv ?_ hn hdb)
  exact PyProof.Rows.callWith_type1 (thn (ha pos pins s σ H _ I h) fun us s1 ⟨vs, H1, I1, r1, q1⟩ => hc pins s1 σ H1 vs us Q I1 r1 q1) he hpl
end
end L2
namespace HT
open PySem PyProof.Rows
section
open PySem.SeqAt
open PySem.AutoSeq1 (wpAny_loadPart')
open PySem.MeetsSeq PySem.MeetsSeq2 PySem.MeetsSeq3
end
section
variable {prog : Program} {w : World} {A : Around} {E : Value → Shared → Prop} {s : Shared}
theorem cat_tup {t b : Addr} {vs ws : List Value} {Q : Value → Shared → Prop} (ht : IsTup s.heap t vs.toArray) (hb : IsTup s.heap b ws.toArray) (hv : vs ≠ [])
    (h1 : ws = [] → Q (.ref t) s) (h2 : ws ≠ [] → Q (.ref s.heap.objs.size) { s with heap := s.heap.push { cls := .type "tuple", data := .seq (vs ++ ws).toArray } })
    (hsz : vs.length + ws.length ≤ sizeLine) : wpAny (model prog w) A (binaryOp .Add (.ref t) (.ref b)) Q E s := by
  obtain ⟨⟨cls, dd, data, sl⟩, ho, hc, n, hd⟩ := id ht
  obtain ⟨⟨cls2, dd2, data2, sl2⟩, ho2, hc2, n2, hd2⟩ := id hb
  simp only at hc hd hc2 hd2
  subst hc hd hc2 hd2
  have e : vs.toArray ++ ws.toArray = (vs ++ ws).toArray := by simp
  by_cases hw : ws = []
  · exact concat_meets ⟨_, ho, rfl⟩ ⟨_, ho2, rfl⟩ noFill_tuple_add seq_tuple_add PySem.F.slot_tuple_add PySem.F.entry_tuple_add (PySem.F.args_tuple_add_2 _ _)
      (tuple_addW1 t b vs.toArray ws.toArray n n2 dd dd2 sl sl2 (by simpa using hv) (by simp [hw])) ⟨ho, ho2, h1 hw⟩
  · refine concat_meets ⟨_, ho, rfl⟩ ⟨_, ho2, rfl⟩ noFill_tuple_add seq_tuple_add PySem.F.slot_tuple_add PySem.F.entry_tuple_add (PySem.F.args_tuple_add_2 _ _)
      (tuple_addW2 t b vs.toArray ws.toArray n n2 dd dd2 sl sl2 (by simpa using hv) (by simpa using hw) (by rw [List.size_toArray, List.size_toArray]; exact hsz)) ⟨ho, ho2, ?_⟩
    rw [e]
    exact h2 hw
def sIx (n d : Nat) : Option Int → Nat
  | none => d
  | some v => if v < 0 then (v + (n : Int)).toNat else min v.toNat n
theorem sIx_nat (n d k : Nat) : sIx n d (some (k : Int)) = min k n := by
  show (if (k : Int) < 0 then ((k : Int) + (n : Int)).toNat else min (k : Int).toNat n) = min k n
  rw [if_neg (by omega), Int.toNat_natCast]
end
end HT
namespace L2
open PySem PySem.Spec PyProof.Rows
abbrev TO := St → Hp → (Option Int → Hp → Prop) → Prop
def PO (X : Cx) (e : Option Expr) (t : TO) : Prop :=
  ∀ (pins : List (Addr × Obj)) (s : Shared) (σ : St) (H : Hp) (Q : Option Int → Hp → Prop), Inv X pins σ H s → t σ H Q →
    wpAny (model X.prog X.w) X.A (evalPart e X.env) (fun u s' => ∃ o H', Inv X pins σ H' s' ∧ IsPart u o ∧ Q o H') X.xe s
def tNoPart : TO := fun _ H Q => Q none H
def tPart (t : TE) : TO := fun σ H Q => t σ H fun x H1 => ∃ i, x = .int i ∧ Q (some i) H1
theorem intsAre_of {ns : List Int} : ∀ {us : List Value}, Vals (ns.map V.int) us → IntsAre us ns := by
  induction ns with
  | nil => intro us r; rw [List.map_nil] at r; cases r; exact .nil
  | cons n ns ih =>
    intro us r
    rw [List.map_cons] at r
    cases r with
    | cons r1 r2 =>
      obtain ⟨t, e⟩ := r1
      subst e
      exact .cons n t (ih r2)
section
variable {X : Cx} {e : Expr} {te : TE} {lo hi : Option Expr} {tl th : TO} {pos p2 : Pos}
theorem po_none : PO X none tNoPart := by
  intro pins s σ H Q I h
  rw [evalPart_none]
  exact wpAny_pure ⟨none, H, I, .none, h⟩
theorem po_some (h : PE X e te) : PO X (some e) (tPart te) := by
  intro pins s σ H Q I hw
  rw [evalPart_some]
  refine thn (h pins s σ H _ I hw) fun u s1 ⟨x, H1, I1, r1, q1⟩ => ?_
  obtain ⟨i, rfl, q⟩ := q1
  obtain ⟨t, rfl⟩ := r1
  exact ⟨some i, H1, I1, .int i t, q⟩
def SlR (X : Cx) (r : V → Option Int → Option Int → Hp → VK → Prop) : Prop :=
  ∀ (pins : List (Addr × Obj)) (s : Shared) (σ : St) (H : Hp) (x : V) (v vl vu : Value) (lo hi : Option Int) (sl : Addr) (Q : VK), Inv X pins σ H s → RelV x v → s.heap.IsSliceOf sl vl vu .none → IsPart vl lo → IsPart vu hi → r x lo hi H Q →
    ∃ T id, typeLookup (.type T) "__getitem__" = pure (some (.builtin id)) ∧ s.TypeIs v T ∧ wpAny (model X.prog X.w) X.A (getItem v (.ref sl)) (EP X pins σ Q) X.xe s
def tSl (r : V → Option Int → Option Int → Hp → VK → Prop) (te : TE) (tl th : TO) : TE := fun σ H Q => te σ H fun x H1 => tl σ H1 fun l H2 => th σ H2 fun u H3 => r x l u H3 Q
theorem pe_slice {r : V → Option Int → Option Int → Hp → VK → Prop} (hr : SlR X r) (he : PE X e te) (hl : PO X lo tl) (hu : PO X hi th) : PE X (.Subscript e (.Slice lo hi none p2) pos) (tSl r te tl th) := by
  intro pins s σ H Q I h
  refine Subscript_ (thn (he pins s σ H _ I h) fun v s1 ⟨x, H1, I1, r1, q1⟩ => ?_)
  refine wpAny_Slice (thn (hl pins s1 σ H1 _ I1 q1) fun vl s2 ⟨l, H2, I2, pl, q2⟩ => thn (hu pins s2 σ H2 _ I2 q2) fun vu s3 ⟨u, H3, I3, pu, q3⟩ => ?_)
  rw [evalPart_none]
  refine wpAny_pure ?_
  have I4 : Inv X pins σ H3 { s3 with heap := s3.heap.push { cls := .type "slice", data := .fields #[vl, vu, .none] } } := I3.kept (t' := s3.toks) fun b ob q => Heap.get?_push_of_some _ q
  obtain ⟨T, id, hT, ht, hg⟩ := hr pins { s3 with heap := s3.heap.push { cls := .type "slice", data := .fields #[vl, vu, .none] } } σ H3 x v vl vu l u s3.heap.objs.size Q I4 r1 (Heap.IsSliceOf.new ..) pl pu q3
  show wpAny (model X.prog X.w) X.A (subscriptTail e (.Slice lo hi none p2) v (.ref s3.heap.objs.size)) (EP X pins σ Q) X.xe { s3 with heap := s3.heap.push { cls := .type "slice", data := .fields #[vl, vu, .none] } }
  exact tail_any (ops := [.ref s3.heap.objs.size, v]) ht hT hg (by with_unfolding_all rfl)
def cutV (xs : List V) (lo hi : Option Int) : List V := (xs.drop (HT.sIx xs.length 0 lo)).take (HT.sIx xs.length xs.length hi - HT.sIx xs.length 0 lo)
theorem cutV_length (xs : List V) (lo hi : Option Int) : (cutV xs lo hi).length ≤ xs.length := by
  unfold cutV
  rw [List.length_take, List.length_drop]
  omega
def rCatT (K : PySem.W.Frag) : R2 := fun x y H Q => ∃ a b xs ys, x = .ref a ∧ y = .ref b ∧ SqT K H a xs ∧ SqT K H b ys ∧ xs ≠ [] ∧ xs.length + ys.length ≤ sizeLine ∧
  (ys = [] → Q (.ref a) H) ∧ (ys ≠ [] → ∀ p, H p = none → Q (.ref p) (upd H p (.tup (xs ++ ys))))
theorem Vals.nil_iff {xs : List V} {us : List Value} (r : Vals xs us) : us = [] ↔ xs = [] := by
  cases r with
  | nil => simp
  | cons _ _ => simp
theorem op_catT : OpR X (binaryOp .Add) (rCatT X.K) := by
  intro pins s σ H x y v u Q I rx ry h
  obtain ⟨a, b, xs, ys, rfl, rfl, ha, hb, hx, hz, q1, q2⟩ := h
  cases rx
  cases ry
  obtain ⟨its, r1, p1, _⟩ := I.tuple ha
  obtain ⟨its2, r2, p2, _⟩ := I.tuple hb
  refine HT.cat_tup p1 p2 (fun z => hx (r1.nil_iff.mp z)) (fun z => ⟨.ref a, H, I, rfl, q1 (r2.nil_iff.mp z)⟩) (fun z => ?_) (by rw [← r1.length, ← r2.length]; exact hz)
  refine ⟨.ref s.heap.objs.size, _, I.laid (t' := s.toks) (o := .tup (xs ++ ys)) (fun b ob q => Heap.get?_push_of_some _ q) (Nat.le_refl _) ?_, rfl, q2 (fun w => z (r2.nil_iff.mpr w)) _ (I.hok.fresh (Nat.le_refl _))⟩
  exact ⟨by rw [List.length_append]; exact hz, _, r1.append r2, IsTup.new _ _⟩
end
end L2
namespace L2
open PySem PySem.Spec PyProof.Rows
def ixN (n : Nat) (i : Int) : Option Nat := if 0 ≤ i then (if i < n then some i.toNat else none) else if -(n : Int) ≤ i then some (i + n).toNat else none
def atI {α : Type} (xs : List α) (i : Int) : Option α := (ixN xs.length i).bind fun j => xs[j]?
theorem ixN_seq {n : Nat} {i : Int} {j : Nat} (h : ixN n i = some j) : seqIndex? i n = some j ∧ j < n ∧ -(n : Int) ≤ i ∧ i < n := by
  unfold ixN at h
  by_cases h0 : 0 ≤ i
  · rw [if_pos h0] at h
    by_cases h1 : i < n
    · rw [if_pos h1] at h
      have e : i.toNat = j := Option.some.inj h
      exact ⟨by rw [seqIndex_of h0 h1, e], by omega, by omega, h1⟩
    · rw [if_neg h1] at h; cases h
  · rw [if_neg h0] at h
    by_cases h1 : -(n : Int) ≤ i
    · rw [if_pos h1] at h
      have e : (i + n).toNat = j := Option.some.inj h
      exact ⟨by rw [seqIndex_neg (by omega) h1, e], by omega, h1, by omega⟩
    · rw [if_neg h1] at h; cases h
theorem atI_get {α : Type} {xs : List α} {i : Int} {v : α} (h : atI xs i = some v) : ∃ j, seqIndex? i xs.length = some j ∧ xs[j]? = some v ∧ j < xs.length ∧ -(xs.length : Int) ≤ i ∧ i < xs.length := by
  unfold atI at h
  cases e : ixN xs.length i with
  | none => rw [e] at h; cases h
  | some j =>
    rw [e] at h
    obtain ⟨h1, h2, h3, h4⟩ := ixN_seq e
    exact ⟨j, h1, h, h2, h3, h4⟩
theorem atI_nat {α : Type} {xs : List α} {j : Nat} {v : α} (h : xs[j]? = some v) : atI xs (j : Int) = some v := by
  have hj : j < xs.length := (List.getElem?_eq_some_iff.mp h).1
  have e : ixN xs.length (j : Int) = some j := by
    unfold ixN
    rw [if_pos (by omega), if_pos (by omega)]; simp
  unfold atI; rw [e]; exact h
theorem atI_last {α : Type} (xs : List α) (v : α) : atI (xs ++ [v]) (-1) = some v := by
  have hl : (xs ++ [v]).length = xs.length + 1 := by simp
  have e : ixN (xs ++ [v]).length (-1) = some xs.length := by
    unfold ixN
    rw [hl, if_neg (by decide), if_pos (by omega)]
    congr 1
    omega
  unfold atI
  rw [e]
  show (xs ++ [v])[xs.length]? = some v
  simp
def PlainIx (b : Expr) : Prop := ∀ o i, subscripted b false o i = operate [o, i] (getItem o i)
def IxR (X : Cx) (r : R2) : Prop :=
  ∀ (value slice : Expr) (pins : List (Addr × Obj)) (s : Shared) (σ : St) (H : Hp) (x y : V) (v u : Value) (Q : VK), Inv X pins σ H s → RelV x v → RelV y u → r x y H Q →
    subscripted slice false v u = operate [v, u] (getItem v u) → wpAny (model X.prog X.w) X.A (subscriptTail value slice v u) (EP X pins σ Q) X.xe s
def MtR (X : Cx) (id : String) (r : V → List V → Hp → VK → Prop) : Prop :=
  ∀ (pins : List (Addr × Obj)) (s : Shared) (σ : St) (H : Hp) (x : V) (xs : List V) (v : Value) (us : List Value) (Q : VK), Inv X pins σ H s → RelV x v → Vals xs us → r x xs H Q →
    wpAny (model X.prog X.w) X.A (call (.builtin id) (v :: us)) (EP X pins σ Q) X.xe s
section
variable {X : Cx} {a b : Expr} {ta tb : TE} {pos : Pos}
theorem pe_ix {r : R2} (hr : IxR X r) (ha : PE X a ta) (hb : PE X b tb) (hs : PlainIx b) : PE X (.Subscript a b pos) (tOp r ta tb) := by
  intro pins s σ H Q I h
  exact Subscript_ (binT ha hb I h fun v u s2 x y H2 I2 rx ry q => hr a b pins s2 σ H2 x y v u Q I2 rx ry q (hs _ _))
def rIxL (K : PySem.W.Frag) : R2 := fun x y H Q => ∃ p xs i v, x = .ref p ∧ y = .int i ∧ SqL K H p xs ∧ atI xs i = some v ∧ Q v H
def rIxT (K : PySem.W.Frag) : R2 := fun x y H Q => ∃ p xs i v, x = .ref p ∧ y = .int i ∧ SqT K H p xs ∧ atI xs i = some v ∧ Q v H
def rIxS : R2 := fun x y H Q => ∃ z i c, x = .str z ∧ y = .int i ∧ z.length ≤ sizeLine ∧ atI z.cps.toList i = some c ∧ Q (.str ⟨#[c]⟩) H
theorem ix_list : IxR X (rIxL X.K) := by
  intro value slice pins s σ H x y v u Q I rx ry h hs
  obtain ⟨p, xs, i, z, rfl, rfl, hq, he, q⟩ := h
  cases rx
  obtain ⟨t, rfl⟩ := ry
  obtain ⟨its, r, pl, hz⟩ := I.list hq
  obtain ⟨j, h1, h2, h3, h4, h5⟩ := atI_get he
  obtain ⟨w, ew, rw'⟩ := r.get h2
  have hl := r.length
  have hn := line63
  have fin : EP X pins σ Q w s := ⟨z, H, I, rw', q⟩
  by_cases h0 : 0 ≤ i
  · have hj : i.toNat = j := by
      rw [seqIndex_of h0 h5] at h1
      exact Option.some.inj h1
    exact item_listR pl.isList h0 (by omega) (by rw [hj]; simpa using ew) fin hs
  · have hj : (i + (its.toArray.size : Int)).toNat = j := by
      rw [seqIndex_neg (by omega) h4] at h1
      rw [List.size_toArray, ← hl]
      exact Option.some.inj h1
    exact subscriptTail_builtinR (x := w) pl.isList.typeIs slot_list_getitem.lookup
      (wpAny_getItem_list_neg (Q := fun r s' => r = w ∧ EP X pins σ Q r s') pl.isList (by omega) (by rw [List.size_toArray] <;> omega) (by omega) (by rw [hj]; simpa using ew) ⟨rfl, fin⟩) hs
theorem ix_tup : IxR X (rIxT X.K) := by
  intro value slice pins s σ H x y v u Q I rx ry h hs
  obtain ⟨p, xs, i, z, rfl, rfl, hq, he, q⟩ := h
  cases rx
  obtain ⟨t, rfl⟩ := ry
  obtain ⟨its, r, pl, hz⟩ := I.tuple hq
  obtain ⟨j, h1, h2, h3, h4, h5⟩ := atI_get he
  obtain ⟨w, ew, rw'⟩ := r.get h2
  have hl := r.length
  have hn := line63
  have fin : EP X pins σ Q w s := ⟨z, H, I, rw', q⟩
  exact subscriptTail_builtinR (x := w) pl.typeIs slot_tuple_getitem.lookup
    (getItem_tuple (j := j) (Q := fun r s' => r = w ∧ EP X pins σ Q r s') pl (by omega) (by omega) (by rw [List.size_toArray, ← hl]; exact h1) (by simpa using ew) ⟨rfl, fin⟩) hs
theorem ix_str : IxR X rIxS := by
  intro value slice pins s σ H x y v u Q I rx ry h hs
  obtain ⟨z, i, c, rfl, rfl, hz, he, q⟩ := h
  obtain ⟨t, rfl⟩ := rx
  obtain ⟨t', rfl⟩ := ry
  obtain ⟨j, h1, h2, h3, h4, h5⟩ := atI_get he
  have hl : z.cps.toList.length = z.length := by simp [Str.length]
  rw [hl] at h1 h4 h5
  have hn := line63
  exact tail_any (typeIs_str s z t) slot_str_getitem.lookup (getItem_str (c := c) (by
    have e1 : decide (i < -(2 ^ 63 : Int)) = false := decide_eq_false (by omega)
    have e2 : decide (i ≥ 2 ^ 63) = false := decide_eq_false (by omega)
    rw [e1, e2, Bool.or_false]) (by rw [h1]; simpa using h2) ⟨.str ⟨#[c]⟩, H, I.tok _, ⟨_, rfl⟩, q⟩) hs
theorem mapSeq_set (its : List Value) (n j : Nat) (u : Value) : Obj.mapSeq (·.setIfInBounds j u) { cls := .type "list", data := .seq its.toArray n } = { cls := .type "list", data := .seq (its.set j u).toArray n } := by
  simp [Obj.mapSeq]
theorem Inv.lst {pins : List (Addr × Obj)} {σ : St} {H : Hp} {s : Shared} {p : Addr} {xs : List V} (I : Inv X pins σ H s) (h : H p = some (.lst xs)) :
    ∃ (its : List Value) (n : Nat), Vals xs its ∧ s.heap.get? p = some { cls := .type "list", data := .seq its.toArray n } ∧ xs.length ≤ sizeLine := by
  obtain ⟨z, its, n, r, e⟩ := I.hok p _ h
  exact ⟨its, n, r, e, z⟩
theorem Inv.lstUpd {pins : List (Addr × Obj)} {σ : St} {H : Hp} {s : Shared} {p : Addr} {xs ys : List V} {its its' : List Value} {n n' : Nat} {f : Obj → Obj} (I : Inv X pins σ H s) (h : H p = some (.lst xs))
    (ho : s.heap.get? p = some { cls := .type "list", data := .seq its.toArray n }) (hf : f { cls := .type "list", data := .seq its.toArray n } = { cls := .type "list", data := .seq its'.toArray n' }) (r : Vals ys its') (hz : ys.length ≤ sizeLine) (t : Nat) :
    Inv X pins σ (upd H p (.lst ys)) { s with heap := s.heap.update p f, toks := t } := by
  have e : (s.heap.update p f).get? p = some { cls := .type "list", data := .seq its'.toArray n' } := by
    rw [Heap.get?_update_self f ho (by rw [hf] <;> rfl), hf]
  refine I.write (x := p) (e := p) (by rw [h]; trivial) (.inl rfl) (fun b u hb q => (Heap.get?_update_other _ _ (Ne.symm hb)).trans q) ⟨_, e⟩ ?_
  exact ⟨hz, its', n', r, e⟩
def rSetL : V → V → V → Hp → (Hp → Prop) → Prop := fun o i v H Q => ∃ p xs k j, o = .ref p ∧ i = .int k ∧ H p = some (.lst xs) ∧ ixN xs.length k = some j ∧ Q (upd H p (.lst (xs.set j v)))
theorem set_list : PSet X rSetL := by
  intro pins s σ H o i v ov iv u Q I ro ri rv h
  obtain ⟨p, xs, k, j, rfl, rfl, hp, hj, q⟩ := h
  cases ro
  obtain ⟨t, rfl⟩ := ri
  obtain ⟨its, n, r, ho, hz⟩ := I.lst hp
  obtain ⟨h1, h2, h3, h4⟩ := ixN_seq hj
  have hl := r.length
  have hn := line63
  have I' : Inv X pins σ (upd H p (.lst (xs.set j v))) { s with heap := s.heap.update p (Obj.mapSeq (·.setIfInBounds j u)) } :=
    I.lstUpd hp ho (mapSeq_set its n j u) (r.set rv j) (by rw [List.length_set]; exact hz) s.toks
  by_cases h0 : 0 ≤ k
  · have hk : k.toNat = j := by
      rw [seqIndex_of h0 h4] at h1
      exact Option.some.inj h1
    exact PySem.W.ki_setAt ho h0 (by omega) (by rw [List.size_toArray, ← hl]; exact h4) (by rw [hk]; exact ⟨_, I', q⟩)
  · have hk : (k + (its.toArray.size : Int)).toNat = j := by
      rw [seqIndex_neg (by omega) h3] at h1
      rw [List.size_toArray, ← hl]
      exact Option.some.inj h1
    exact PySem.W.ki_setBack ho (by omega) (by rw [List.size_toArray, ← hl]; exact h3) (by omega) (by rw [hk]; exact ⟨_, I', q⟩)
theorem slice_bounds (lo hi : Option Int) (n : Nat) : (sliceBounds lo hi none n).1 = ((HT.sIx n 0 lo : Nat) : Int) ∧ (sliceBounds lo hi none n).2.1 = ((HT.sIx n n hi : Nat) : Int) ∧ (sliceBounds lo hi none n).2.2 = 1 := by
  refine ⟨?_, ?_, rfl⟩
  · cases lo with
    | none => simp [sliceBounds, HT.sIx]
    | some i =>
      simp only [sliceBounds, HT.sIx, Option.getD_none, show (1 : Int) > 0 by decide, if_true]
      by_cases h : i < 0
      · simp only [h, if_true] <;> omega
      · simp only [h, if_false] <;> omega
  · cases hi with
    | none => simp [sliceBounds, HT.sIx]
    | some i =>
      simp only [sliceBounds, HT.sIx, Option.getD_none, show (1 : Int) > 0 by decide, if_true]
      by_cases h : i < 0
      · simp only [h, if_true] <;> omega
      · simp only [h, if_false] <;> omega
theorem slicePick_cut (its : List Value) (lo hi : Option Int) : slicePick its.toArray lo hi none = ((its.drop (HT.sIx its.length 0 lo)).take (HT.sIx its.length its.length hi - HT.sIx its.length 0 lo)).toArray := by
  obtain ⟨h1, h2, h3⟩ := slice_bounds lo hi its.toArray.size
  unfold slicePick
  rw [h1, h2, h3]
  simp only [sliceRange_one, pick_run, List.size_toArray] <;> rfl
def rSlL (K : PySem.W.Frag) : V → Option Int → Option Int → Hp → VK → Prop := fun x lo hi H Q => ∃ a xs, x = .ref a ∧ SqL K H a xs ∧ ∀ p, H p = none → Q (.ref p) (upd H p (.lst (cutV xs lo hi)))
theorem sl_list : SlR X (rSlL X.K) := by
  intro pins s σ H x v vl vu lo hi sl Q I rx hs pl pu h
  obtain ⟨a, xs, rfl, hx, q⟩ := h
  cases rx
  obtain ⟨its, r, ht, hz⟩ := I.list hx
  have hlen := r.length
  refine ⟨"list", _, slot_list_getitem.lookup, ht.isList.typeIs, ?_⟩
  refine wpAny_getItem_list_slice ht.isList hs pl pu .none (by simp) ?_ (by rw [List.size_toArray] <;> omega)
  rw [slicePick_cut, ← hlen]
  refine ⟨.ref s.heap.objs.size, _, I.laid (t' := s.toks) (o := .lst (cutV xs lo hi)) (fun b ob q => Heap.get?_push_of_some _ q) (Nat.le_refl _) ?_, rfl, q _ (I.hok.fresh (Nat.le_refl _))⟩
  exact ⟨Nat.le_trans (cutV_length xs lo hi) hz, _, 0, (r.drop (HT.sIx xs.length 0 lo)).take (HT.sIx xs.length xs.length hi - HT.sIx xs.length 0 lo), Heap.get?_push_size _ rfl⟩
def flatV : V → Bool
  | .non => true
  | .bl _ => true
  | .int _ => true
  | .str _ => true
  | _ => false
def eqV : V → V → Bool
  | .non, .non => true
  | .bl a, .bl b => a == b
  | .bl a, .int b => (if a then 1 else 0) == b
  | .int a, .bl b => a == (if b then 1 else 0)
  | .int a, .int b => a == b
  | .str a, .str b => a == b
  | _, _ => false
theorem eqAt_V {A : Around} {s : Shared} {y x : V} {u v : Value} (ry : RelV y u) (rx : RelV x v) (fy : flatV y = true) (fx : flatV x = true) : SeqAt.EqAt A s u v (eqV y x) := by
  cases y with
  | non =>
    cases ry
    cases x with
    | non => cases rx; exact SeqAt.EqAt.same _
    | bl b => cases rx; exact SeqAt.EqAt.none_bool b
    | int b => obtain ⟨t, rfl⟩ := rx; exact SeqAt.EqAt.none_int b t
    | str b => obtain ⟨t, rfl⟩ := rx; exact SeqAt.EqAt.none_str b t
    | _ => exact absurd (show false = true from fx) Bool.false_ne_true
  | bl a =>
    cases ry
    cases x with
    | non => cases rx; exact SeqAt.EqAt.bool_none a
    | bl b => cases rx; exact SeqAt.EqAt.bool_bool a b
    | int b => obtain ⟨t, rfl⟩ := rx; exact SeqAt.EqAt.bool_int a b t
    | str b => obtain ⟨t, rfl⟩ := rx; exact SeqAt.EqAt.bool_str a b t
    | _ => exact absurd (show false = true from fx) Bool.false_ne_true
  | int a =>
    obtain ⟨t', rfl⟩ := ry
    cases x with
    | non => cases rx; exact SeqAt.EqAt.int_none a t'
    | bl b => cases rx; exact SeqAt.EqAt.int_bool a t' b
    | int b => obtain ⟨t, rfl⟩ := rx; exact SeqAt.EqAt.int_int a t' b t
    | str b => obtain ⟨t, rfl⟩ := rx; exact SeqAt.EqAt.int_str a t' b t
    | _ => exact absurd (show false = true from fx) Bool.false_ne_true
  | str a =>
    obtain ⟨t', rfl⟩ := ry
    cases x with
    | non => cases rx; exact SeqAt.EqAt.str_none a t'
    | bl b => cases rx; exact SeqAt.EqAt.str_bool a t' b
    | int b => obtain ⟨t, rfl⟩ := rx; exact SeqAt.EqAt.str_int a t' b t
    | str b => obtain ⟨t, rfl⟩ := rx; exact SeqAt.EqAt.str_str a t' b t
    | _ => exact absurd (show false = true from fx) Bool.false_ne_true
  | _ => exact absurd (show false = true from fy) Bool.false_ne_true
theorem call_tuple_of : CallR X (.type "tuple") (fun xs H Q => ∃ p ys, xs = [.ref p] ∧ ((SqL X.K H p ys ∧ ∀ l, H l = none → Q (.ref l) (upd H l (.tup ys))) ∨ (SqT X.K H p ys ∧ Q (.ref p) H))) := by
  intro pins s σ H xs us Q I r h
  obtain ⟨p, ys, rfl, h⟩ := h
  obtain ⟨u, rfl, rx⟩ := vals1 r
  cases rx
  rcases h with ⟨hq, q⟩ | ⟨hq, q⟩
  · obtain ⟨its, r', pl, hz⟩ := I.list hq
    have hlen := r'.length
    refine call_tuple_list pl.isList (fun h' kp => ?_) (by simp only [List.size_toArray] <;> omega)
    have I1 : Inv X pins σ H { s with heap := h' } := I.kept (t' := s.toks) kp
    have I2 : Inv X pins σ (upd H h'.objs.size (.tup ys)) { s with heap := h'.push { cls := .type "tuple", data := .seq its.toArray } } :=
      I1.laid (t' := s.toks) (fun b o e => Heap.get?_push_of_some _ e) (Nat.le_refl _) (show ObjOk X.prog X.w _ _ _ (.tup ys) from ⟨hz, its, r', IsTup.new _ _⟩)
    exact ⟨.ref h'.objs.size, _, I2, rfl, q _ (I1.hok.fresh (Nat.le_refl _))⟩
  · obtain ⟨its, r', pl, hz⟩ := I.tuple hq
    exact call_tuple_same pl ⟨.ref p, H, I, rfl, q⟩
def tyV (K : PySem.W.Frag) (T : String) (x : V) (H : Hp) : Prop := match x with
  | .str _ => T = "str"
  | .int _ => T = "int"
  | .ref p => (T = "list" ∧ ∃ xs, SqL K H p xs) ∨ (T = "tuple" ∧ ∃ o, K.lookup p = some o ∧ o.cls = .type "tuple" ∧ o.dict = none) ∨
      (T = "dict" ∧ ((∃ kvs, H p = some (.dK kvs)) ∨ ∃ kvs, H p = some (.dT kvs))) ∨ (T = "set" ∧ ∃ S n, H p = some (.set S n))
  | _ => False
theorem tyV_is {pins : List (Addr × Obj)} {σ : St} {H : Hp} {s : Shared} {T : String} {x : V} {v : Value} (I : Inv X pins σ H s) (r : RelV x v) (ty : tyV X.K T x H) :
    s.TypeIs v T ∧ ∀ a, v = .ref a → ∃ ob, s.heap.get? a = some ob ∧ ob.dict = none := by
  cases x with
  | str z =>
    obtain ⟨t, rfl⟩ := r
    cases (show T = "str" from ty)
    exact ⟨typeIs_str s z t, fun _ e => nomatch e⟩
  | int i =>
    obtain ⟨t, rfl⟩ := r
    cases (show T = "int" from ty)
    exact ⟨typeIs_int s i t, fun _ e => nomatch e⟩
  | ref p =>
    cases r
    rcases ty with ⟨rfl, xs, hq⟩ | ⟨rfl, o, hk, hc, hd⟩ | ⟨rfl, hk⟩ | ⟨rfl, S, n, hk⟩
    · obtain ⟨its, _, pl, _⟩ := I.list hq
      refine ⟨pl.isList.typeIs, fun a e => ?_⟩
      cases e
      obtain ⟨o, n, e, c, hd, _⟩ := pl
      exact ⟨o, e, hd⟩
    · refine ⟨⟨o, I.kIn p o hk, hc⟩, fun a e => ?_⟩
      cases e
      exact ⟨o, I.kIn _ o hk, hd⟩
    · have z : ∃ o, s.heap.get? p = some o ∧ o.ExactDict := by
        rcases hk with ⟨kvs, hk⟩ | ⟨kvs, hk⟩
        · obtain ⟨_, _, _, _, o, _, _, e, ex, _⟩ := I.hok p _ hk
          exact ⟨o, e, ex⟩
        · obtain ⟨_, _, _, _, o, _, _, e, ex, _⟩ := I.hok p _ hk
          exact ⟨o, e, ex⟩
      obtain ⟨o, e, ex⟩ := z
      refine ⟨⟨o, e, ex.1⟩, fun a e2 => ?_⟩
      cases e2
      exact ⟨o, e, ex.2.1⟩
    · obtain ⟨o, _, _, _, e, ex, _⟩ := I.hok p _ hk
      refine ⟨⟨o, e, ex.1⟩, fun a e2 => ?_⟩
      cases e2
      exact ⟨o, e, ex.2.1⟩
  | _ => exact False.elim ty
def tBM0 (K : PySem.W.Frag) (T : String) (r : V → List V → Hp → VK → Prop) (to : TE) : TE := fun σ H Q => to σ H fun x H1 => tyV K T x H1 ∧ r x [] H1 Q
def tBM (K : PySem.W.Frag) (T : String) (r : V → List V → Hp → VK → Prop) (to : TE) (t : TA) : TE := fun σ H Q => to σ H fun x H1 => tyV K T x H1 ∧ t σ H1 fun xs H2 => r x xs H2 Q
variable {o e : Expr} {es : List Expr} {to : TE} {t : TA} {name : Str} {apos cpos : Pos} {T id : String} {r : V → List V → Hp → VK → Prop}
theorem pe_bm0 (pa : PlainAttrs T) (slot : Slot T name id) (hty : typeOf (.builtin id) = pure (.type "method_descriptor")) (hm : MtR X id r) (ho : PE X o to)
    (hbase : attributeBase o name X.env (eval o X.env) = eval o X.env := by rfl) (hline : (apos.endLine == cpos.line) = true := by rfl) : PE X (.Call (.Attribute o name apos) [] [] cpos) (tBM0 X.K T r to) := by
  intro pins s σ H Q I h
  refine wpAny_Call_method0_late hbase hline (thn (ho pins s σ H _ I h) fun v s1 ⟨x, H1, I1, r1, ty, q1⟩ => ?_)
  obtain ⟨h1, h2⟩ := tyV_is I1 r1 ty
  exact ⟨T, id, pa, slot, hty, h1, h2, Calls.callWith_builtin rfl (PySem.evalArgs_none (hm pins s1 σ H1 x [] v [] Q I1 r1 .nil q1))⟩
theorem pe_bm (pa : PlainAttrs T) (slot : Slot T name id) (hty : typeOf (.builtin id) = pure (.type "method_descriptor")) (hm : MtR X id r) (ho : PE X o to) (ha : PA X (e :: es) t)
    (hbase : attributeBase o name X.env (eval o X.env) = eval o X.env := by rfl)
    (hfew : ((backTo cpos (starEach (e :: es) X.env)).all (fun x => !x.1) && (backToKw cpos (keywordEach [] X.env)).all (fun x => x.1.isSome)
      && decide ((e :: es).length + ([] : List Keyword).length + (if ([] : List Keyword).isEmpty then 0 else 1) < 30)) = true := by rfl)
    (hline : (apos.endLine == cpos.line) = true := by rfl) (hs : starEach (e :: es) X.env = (false, eval e X.env) :: starEach es X.env := by rfl) (hplain : (backTo cpos (starEach es X.env)).any (·.1) = false := by rfl) :
    PE X (.Call (.Attribute o name apos) (e :: es) [] cpos) (tBM X.K T r to t) := by
  intro pins s σ H Q I h
  refine wpAny_Call_method_late hbase hfew hline rfl (thn (ho pins s σ H _ I h) fun v s1 ⟨x, H1, I1, r1, ty, q1⟩ => ?_)
  obtain ⟨h1, h2⟩ := tyV_is I1 r1 ty
  refine ⟨T, id, pa, slot, hty, h1, h2, ?_⟩
  have hA := ha cpos pins s1 σ H1 _ I1 q1
  rw [hs] at hA ⊢
  refine Calls.callWith_builtin (by show (false || (backTo cpos (starEach es X.env)).any (·.1)) = false; rw [hplain] <;> rfl) (Calls.evalArgs_plain ?_)
  exact thn hA fun us s2 ⟨vs, H2, I2, r2, q2⟩ => hm pins s2 σ H2 x vs v us Q I2 r1 r2 q2
end
end L2
namespace L2
open PySem PySem.Spec PyProof.Rows
def MtM (X : Cx) (id : String) (r : V → List V → Hp → VK → Prop) : Prop :=
  ∀ (pins : List (Addr × Obj)) (s : Shared) (σ : St) (H : Hp) (x : V) (xs : List V) (v : Value) (us : List Value) (Q : VK), Inv X pins σ H s → RelV x v → Vals xs us → r x xs H Q →
    wpAny (model X.prog X.w) X.A (call (.builtin id) (v :: us)) (EP X pins σ Q) X.xe s
theorem Vals.one : ∀ {x : V} {us : List Value}, Vals [x] us → ∃ u, us = [u] ∧ RelV x u
  | _, _, .cons r .nil => ⟨_, rfl, r⟩
theorem Vals.zero : ∀ {us : List Value}, Vals [] us → us = []
  | _, .nil => rfl
theorem Vals.dropLast {xs : List V} {us : List Value} (h : Vals xs us) : Vals xs.dropLast us.dropLast := by
  induction h with
  | nil => exact .nil
  | cons r t ih =>
    cases t with
    | nil => exact .nil
    | cons q t' => exact .cons r ih
theorem Vals.eraseIdx : ∀ {xs : List V} {us : List Value} (i : Nat), Vals xs us → Vals (xs.eraseIdx i) (us.eraseIdx i)
  | _, _, _, .nil => .nil
  | _, _, 0, .cons _ t => t
  | _, _, i + 1, .cons r t => .cons r (Vals.eraseIdx i t)
theorem Vals.reverse {xs : List V} {us : List Value} (h : Vals xs us) : Vals xs.reverse us.reverse := by
  induction h with
  | nil => exact .nil
  | cons r t ih => rw [List.reverse_cons, List.reverse_cons]; exact Vals.append ih (.cons r .nil)
theorem Vals.rep {xs : List V} {us : List Value} (h : Vals xs us) : ∀ k : Nat, Vals (List.replicate k xs).flatten (List.replicate k us).flatten
  | 0 => .nil
  | k + 1 => by
    rw [List.replicate_succ, List.replicate_succ, List.flatten_cons, List.flatten_cons]
    exact Vals.append h (Vals.rep h k)
theorem erase_last {α : Type} (l : List α) : l.eraseIdx (l.length - 1) = l.dropLast := by
  induction l with
  | nil => rfl
  | cons a r ih =>
    cases r with
    | nil => rfl
    | cons b r =>
      have e : (a :: b :: r).length - 1 = ((b :: r).length - 1) + 1 := by
        have h1 : (a :: b :: r).length = r.length + 2 := rfl
        have h2 : (b :: r).length = r.length + 1 := rfl
        omega
      rw [e, List.eraseIdx_cons_succ, ih]
      all_goals rfl
theorem len_erase {α : Type} : ∀ (l : List α) (i : Nat), (l.eraseIdx i).length ≤ l.length
  | [], _ => Nat.le_refl _
  | _ :: _, 0 => Nat.le_succ _
  | _ :: r, i + 1 => Nat.succ_le_succ (len_erase r i)
theorem foldl_rep (its : List Value) : ∀ (k : Nat) (acc : List Value),
    List.foldl (fun x1 x2 => x1 ++ x2) acc.toArray (List.replicate k its.toArray) = (acc ++ (List.replicate k its).flatten).toArray
  | 0, acc => by simp
  | k + 1, acc => by
    have e : acc.toArray ++ its.toArray = (acc ++ its).toArray := by simp
    have e2 : (acc ++ its) ++ (List.replicate k its).flatten = acc ++ (List.replicate (k + 1) its).flatten := by
      rw [List.replicate_succ, List.flatten_cons, List.append_assoc]
    rw [← e2, ← foldl_rep its k (acc ++ its), ← e, List.replicate_succ, List.foldl_cons]
section
variable {X : Cx} {pins : List (Addr × Obj)} {σ : St} {H : Hp} {s : Shared} {l b : Addr} {xs ys zs : List V}
theorem Inv.lset {its its' : List Value} {n : Nat} {f : Array Value → Array Value} {t' : Nat} (I : Inv X pins σ H s) (hH : H l = some (.lst xs))
    (e : s.heap.get? l = some { cls := .type "list", data := .seq its.toArray n }) (hf : f its.toArray = its'.toArray) (hv : Vals ys its') (hz : ys.length ≤ sizeLine) :
    Inv X pins σ (upd H l (.lst ys)) { s with heap := s.heap.update l (Obj.mapSeq f), toks := t' } := by
  have q := PySem.IsL.update e f
  rw [hf] at q
  refine I.write (x := l) (e := l) (by rw [hH]; exact trivial) (.inl rfl) (fun b' u hb hu => (Heap.get?_update_other s.heap (Obj.mapSeq f) (Ne.symm hb)).trans hu) ⟨_, q⟩ ?_
  exact ⟨hz, its', _, hv, q⟩
theorem Inv.lnew {its : List Value} {t' : Nat} (I : Inv X pins σ H s) (hv : Vals ys its) (hz : ys.length ≤ sizeLine) :
    Inv X pins σ (upd H s.heap.objs.size (.lst ys)) { s with heap := s.heap.push { cls := .type "list", data := .seq its.toArray }, toks := t' } :=
  I.laid (fun _ _ q => Heap.get?_push_of_some _ q) (Nat.le_refl _) ⟨hz, its, 0, hv, Heap.get?_push_size _ rfl⟩
theorem Inv.fresh (I : Inv X pins σ H s) : H s.heap.objs.size = none := I.hok.fresh (Nat.le_refl _)
theorem Inv.lstM (I : Inv X pins σ H s) (hH : H l = some (.lst xs)) : xs.length ≤ sizeLine ∧ ∃ (its : List Value) (n : Nat), Vals xs its ∧ xs.length = its.length ∧ s.heap.get? l = some { cls := .type "list", data := .seq its.toArray n } := by
  obtain ⟨z, its, n, r, e⟩ := I.hok l _ hH
  exact ⟨z, its, n, r, r.length, e⟩
theorem notLongL {n : Nat} (h : n ≤ sizeLine) : Builtin.List.listTooLong n = false := by
  unfold Builtin.List.listTooLong
  exact decide_eq_false (by omega)
end
section
variable {X : Cx}
def rAppend : V → List V → Hp → VK → Prop := fun x vs H Q => ∃ l xs y, x = .ref l ∧ vs = [y] ∧ H l = some (.lst xs) ∧ xs.length < sizeLine ∧ Q .non (upd H l (.lst (xs ++ [y])))
theorem mt_append : MtM X "list.append" rAppend := by
  intro pins s σ H x vs v us Q I rx rv h
  obtain ⟨l, xs, y, rfl, rfl, hH, hz, q⟩ := h
  cases rx
  obtain ⟨u, rfl, ru⟩ := rv.one
  obtain ⟨z, its, n, r, hl, e⟩ := I.lstM hH
  refine call_meets F.slot_list_append ⟨_, e, rfl⟩ F.entry_list_append (F.args_list_append_2 _ _) (PySem.list_append l its.toArray n u (by rw [List.size_toArray]; omega)) ⟨e, ?_⟩
  refine ⟨.non, _, I.lset (its' := its ++ [u]) hH e (by simp) (r.append (.cons ru .nil)) ?_, rfl, q⟩
  rw [List.length_append, List.length_singleton]
  omega
def rExtend : V → List V → Hp → VK → Prop := fun x vs H Q => ∃ l b xs zs, x = .ref l ∧ vs = [.ref b] ∧ H l = some (.lst xs) ∧ H b = some (.lst zs) ∧ xs.length + zs.length ≤ sizeLine ∧ Q .non (upd H l (.lst (xs ++ zs)))
theorem mt_extend : MtM X "list.extend" rExtend := by
  intro pins s σ H x vs v us Q I rx rv h
  obtain ⟨l, b, xs, zs, rfl, rfl, hH, hB, hz, q⟩ := h
  cases rx
  obtain ⟨u, rfl, ru⟩ := rv.one
  cases ru
  obtain ⟨z, its, n, r, hl, e⟩ := I.lstM hH
  obtain ⟨z2, its2, n2, r2, hl2, e2⟩ := I.lstM hB
  have hsz : its.toArray.size + its2.toArray.size ≤ sizeLine := by rw [List.size_toArray, List.size_toArray]; omega
  have hlong : ¬ (!its.toArray.isEmpty && Builtin.List.listTooLong (its.toArray.size + its2.toArray.size)) = true := by
    rw [notLongL hsz, Bool.and_false]
    exact Bool.false_ne_true
  refine call_meets F.slot_list_extend ⟨_, e, rfl⟩ F.entry_list_extend (F.args_list_extend_2 _ _)
    (AutoSeq1.list_extend_list_list_0 l its.toArray n b its2.toArray n2 hlong (by rw [List.size_toArray]; omega) (by omega)) ⟨e, e2, ?_⟩
  refine ⟨.non, _, I.lset (its' := its ++ its2) hH e (by simp) (r.append r2) ?_, rfl, q⟩
  rw [List.length_append]
  omega
def rPop : V → List V → Hp → VK → Prop := fun x vs H Q => ∃ l xs y, x = .ref l ∧ vs = [] ∧ H l = some (.lst xs) ∧ xs[xs.length - 1]? = some y ∧ Q y (upd H l (.lst xs.dropLast))
theorem mt_pop : MtM X "list.pop" rPop := by
  intro pins s σ H x vs v us Q I rx rv h
  obtain ⟨l, xs, y, rfl, rfl, hH, hy, q⟩ := h
  cases rx
  have hus := rv.zero
  subst hus
  obtain ⟨z, its, n, r, hl, e⟩ := I.lstM hH
  obtain ⟨u, hu, ru⟩ := r.get hy
  have hy' : its.toArray[its.toArray.size - 1]? = some u := by
    show its.toArray[its.length - 1]? = some u
    rw [← Array.getElem?_toList, ← hl]
    exact hu
  refine call_meets F.slot_list_pop ⟨_, e, rfl⟩ F.entry_list_pop (F.args_list_pop_1 _) (MeetsSeq.list_pop_last l its.toArray n u hy' (by rw [List.size_toArray]; omega)) ⟨e, ?_⟩
  refine ⟨y, _, I.lset (its' := its.dropLast) hH e ?_ r.dropLast ?_, ru, q⟩
  · show its.toArray.eraseIdxIfInBounds (its.toArray.size - 1) = its.dropLast.toArray
    rw [List.size_toArray, List.eraseIdxIfInBounds_toArray, erase_last]
  · rw [List.length_dropLast]
    omega
def rPopAt : V → List V → Hp → VK → Prop := fun x vs H Q => ∃ l xs i k y, x = .ref l ∧ vs = [.int i] ∧ H l = some (.lst xs) ∧ -(2 ^ 63) ≤ i ∧ i < 2 ^ 63 ∧ seqIndex? i xs.length = some k ∧ xs[k]? = some y ∧ Q y (upd H l (.lst (xs.eraseIdx k)))
theorem mt_popAt : MtM X "list.pop" rPopAt := by
  intro pins s σ H x vs v us Q I rx rv h
  obtain ⟨l, xs, i, k, y, rfl, rfl, hH, h1, h2, hk, hy, q⟩ := h
  cases rx
  obtain ⟨u, rfl, ru⟩ := rv.one
  obtain ⟨t, rfl⟩ := ru
  obtain ⟨z, its, n, r, hl, e⟩ := I.lstM hH
  obtain ⟨w, hw, rw'⟩ := r.get hy
  refine call_meets F.slot_list_pop ⟨_, e, rfl⟩ F.entry_list_pop (F.args_list_pop_2 _ _)
    (MeetsSeq.list_pop_at l its.toArray n i t k w (fitsIndex_both h1 h2) (by rw [List.size_toArray, ← hl]; exact hk) (by rw [← Array.getElem?_toList]; exact hw) (by rw [List.size_toArray]; omega)) ⟨e, ?_⟩
  refine ⟨y, _, I.lset (its' := its.eraseIdx k) hH e ?_ (r.eraseIdx k) ?_, rw', q⟩
  · show its.toArray.eraseIdxIfInBounds k = (its.eraseIdx k).toArray
    rw [List.eraseIdxIfInBounds_toArray]
  · have := len_erase xs k
    omega
def rCat : R2 := fun x y H Q => ∃ l b xs zs, x = .ref l ∧ y = .ref b ∧ H l = some (.lst xs) ∧ H b = some (.lst zs) ∧ xs.length + zs.length ≤ sizeLine ∧ ∀ p, H p = none → Q (.ref p) (upd H p (.lst (xs ++ zs)))
theorem op_cat : OpR X (binaryOp .Add) rCat := by
  intro pins s σ H x y v u Q I rx ry h
  obtain ⟨l, b, xs, zs, rfl, rfl, hH, hB, hz, q⟩ := h
  cases rx
  cases ry
  obtain ⟨z, its, n, r, hl, e⟩ := I.lstM hH
  obtain ⟨z2, its2, n2, r2, hl2, e2⟩ := I.lstM hB
  refine PySem.P.add_list e e2 ?_ (by rw [List.size_toArray, List.size_toArray]; omega)
  have ea : its.toArray ++ its2.toArray = (its ++ its2).toArray := by simp
  rw [ea]
  exact ⟨.ref _, _, I.lnew (t' := s.toks) (r.append r2) (by rw [List.length_append]; omega), rfl, q _ I.fresh⟩
def rRep : R2 := fun x y H Q => ∃ l k xs, x = .ref l ∧ y = .int k ∧ H l = some (.lst xs) ∧ -(2 ^ 63) ≤ k ∧ k < 2 ^ 63 ∧ xs.length * k.toNat ≤ sizeLine ∧
  ∀ p, H p = none → Q (.ref p) (upd H p (.lst (List.replicate k.toNat xs).flatten))
theorem len_rep {α : Type} (xs : List α) (k : Nat) : (List.replicate k xs).flatten.length = k * xs.length := by
  induction k with
  | zero => simp
  | succ k ih => rw [List.replicate_succ, List.flatten_cons, List.length_append, ih, Nat.succ_mul, Nat.add_comm]
theorem op_rep : OpR X (binaryOp .Mult) rRep := by
  intro pins s σ H x y v u Q I rx ry h
  obtain ⟨l, k, xs, rfl, rfl, hH, h1, h2, hz, q⟩ := h
  cases rx
  obtain ⟨t, rfl⟩ := ry
  obtain ⟨z, its, n, r, hl, e⟩ := I.lstM hH
  have hlen : its.toArray.size * k.toNat ≤ sizeLine := by rw [List.size_toArray, ← hl]; exact hz
  have hcap : ¬ its.toArray.size * k.toNat > (2 ^ 63 - 1) / 8 := by
    have : (sizeLine : Nat) ≤ (2 ^ 63 - 1) / 8 := by decide
    omega
  have hfit : ¬ (!Builtin.List.listFitsIndex k) = true := by
    rw [fitsIndex_both h1 h2]
    exact Bool.false_ne_true
  have hlong : ¬ Builtin.List.listTooLong (its.toArray.size * k.toNat) = true := by
    rw [notLongL hlen]
    exact Bool.false_ne_true
  have hnew : List.foldl (fun x1 x2 => x1 ++ x2) #[] (List.replicate (if its.toArray.isEmpty = true then 0 else k.toNat) its.toArray) = (List.replicate k.toNat its).flatten.toArray := by
    have f0 : ∀ m : Nat, List.foldl (fun x1 x2 => x1 ++ x2) #[] (List.replicate m its.toArray) = (List.replicate m its).flatten.toArray := fun m => by
      have := foldl_rep its m []
      rw [List.nil_append] at this
      exact this
    rw [f0]
    cases its with
    | nil => simp
    | cons a r' => rw [if_neg (by simp)]
  refine wpAny_binaryOp_repeat_ref (T := "list") (U := "int") (by decide) ⟨_, e, rfl⟩ (fun s' => typeIs_int s' k t) noFill_list_mul F.fills_int_mul F.slot_int_rmul repeat_list F.slot_int_index.lookup
    (call_meets F.slot_int_rmul (typeIs_int s k t) F.entry_int_rmul (F.args_int_rmul_2 _ _) (int___rmul___int_list k t l its.toArray n)
      ⟨e, rfl, ⟨_, e, rfl⟩, call_meets F.slot_list_mul ⟨_, e, rfl⟩ F.entry_list_mul (F.args_list_mul_2 _ _) (AutoListH.list___mul___list_int_3 l its.toArray n k t hfit hcap hlong) ⟨e, ?_⟩⟩)
  rw [hnew]
  exact ⟨.ref _, _, I.lnew (t' := s.toks) (r.rep k.toNat) (by rw [len_rep, Nat.mul_comm]; exact hz), rfl, q _ I.fresh⟩
end
section
variable {prog : Program} {w : World} {A : Around} {E : Value → Shared → Prop} {s : Shared}
end
section
variable {X : Cx}
end
end L2
namespace Att
open PySem PySem.W PySem.Calls PyProof.Rows
theorem ints_of_wellAll {P : Params} {h : Heap} : ∀ (ns : List Int) (vs : List Value), WellAll P h vs (ns.map WData.int) → IntsAre vs ns := by
  intro ns
  induction ns with
  | nil =>
    intro vs w
    rw [List.map_nil] at w
    cases w
    exact .nil
  | cons n ns ih =>
    intro vs w
    rw [List.map_cons] at w
    cases w with
    | cons a b =>
      cases a
      exact .cons _ _ (ih _ b)
theorem script_of {l : OpenLaw} {n : Nat} (hn : l.most = some n) {P : Params} {h : Heap} {args : List WData} {vals : List Value}
    (hpre : l.row.toRowW.claim.pre args = true) (hwl : WellAll P h vals args) :
    ∃ a vs ns, vals = [Value.ref a] ∧ args = [WData.list (ns.map WData.int)] ∧ h.get? a = some { cls := .type "list", data := .seq vs.toArray } ∧ IntsAre vs ns ∧ ns.length ≤ n := by
  have hsh : WShape.hasAll [] args [.list .int] = true := (pre_splitW hpre).1
  have hc : l.pre.holds [] { args := args } = true := (pre_splitW hpre).2
  obtain ⟨d, r, rfl, h1, h2⟩ := hasAllW_cons hsh
  obtain rfl := hasAllW_nil h2
  obtain ⟨xs, rfl, h3⟩ := hasW_list h1
  obtain ⟨ns, rfl⟩ := items_int h3
  have hlen : ns.length ≤ n := by
    unfold OpenLaw.pre at hc
    have h4 : (WTm.not (.lt (.lit (.int (n : Int))) (.len (.arg 0)))).holds [] { args := [.list (ns.map .int)] } = true := by
      have h4 := (holds_andW hc).1
      rw [hn] at h4
      exact h4
    have h5 := condW_of h4 (w_not (w_lt w_lit (w_len_list (w_arg rfl))))
    rw [List.length_map] at h5
    refine Nat.le_of_not_lt fun q => ?_
    have q' : (n : Int) < ((ns.length : Nat) : Int) := by omega
    first
      | (rw [decide_eq_true q'] at h5; exact absurd h5 (by decide))
      | (simp at h5; omega)
  cases hwl with
  | cons w1 w2 =>
    cases w2
    cases w1 with
    | list ho hall => exact ⟨_, _, ns, rfl, rfl, ho, ints_of_wellAll ns _ hall, hlen⟩
theorem post_true (l : OpenLaw) (args : List WData) : l.row.toRowW.claim.post args (.bool true) args = true :=
  postW_of (r := l.row.toRowW) (X := (true == true))
    (show WShape.has [] (.bool true) .bool = true by first | rfl | decide | simp [WShape.has, WShape.arms, WShape.armsAll])
    (show (WTm.eq .res (.lit (.bool true))).value [] { args := args, res := some (.bool true), after := args } = some (.bool (true == true)) from w_eq_bool (w_res rfl) w_lit) rfl
theorem attach_call {l : OpenLaw} {n : Nat} {q : Program} {loose : List Str} {XP : (Str → Option Value) → Heap → Prop} {YP : World → Heap → Prop} {d : DefRec}
    (hn : l.most = some n) (hdf : d.params.defaults = [])
    (call : ∀ (w : World) (s₀ s₁ : Shared) (mg mb : Str → Option Value) (fa : Addr) (o : Obj) (pm cd doc : Value) (a : Addr) (vs : List Value) (ns : List Int),
      Ground q loose [] XP w s₀ mg mb s₁.heap → YP w s₁.heap →
      s₁.heap.get? fa = some o → o.data = .func (docDef d.name d.params d.body d.scope pm cd doc) → s₁.heap.CodeRec cd d.name → mg d.name = some (.ref fa) →
      s₁.heap.get? a = some { cls := .type "list", data := .seq vs.toArray } → IntsAre vs ns → ns.length ≤ n → s₁.gens = #[] →
      codeAny (model l.prog w) callerA (.call (.ref fa) ⟨[.ref a], []⟩) (fun r s' => r = .ok (.ret (.bool true)) ∧ OldK s₁.heap s'.heap ∧ s'.os = s₁.os ∧ AllBare s'.gens) s₁) :
    WalkO q loose XP YP l.row.toRowW d [] (fun f vs => PySem.call f vs) := by
  intro w s₀ s₁ mg mb G Y fa o pm cd doc dV kV ho hd hcd hD hmg hg args vals as hpre hlay hrd hwl hlo
  obtain rfl : dV = .none := Dflts.none hD hdf
  obtain rfl : kV = .none := Dflts.noKw hD
  obtain ⟨a, vs, ns, rfl, rfl, hobj, hints, hlen⟩ := script_of hn hpre hwl
  refine enter_call (codeAny_mono (call w s₀ s₁ mg mb fa o pm cd doc a vs ns G Y ho (fd_plain hd) hcd hmg hobj hints hlen hg) fun r s' hq => ?_)
  obtain ⟨rfl, h2, h3, h4⟩ := hq
  exact ⟨.inl ⟨.bool true, .bool true, [], rfl, fun _ => rfl, .bool true, post_true l _, fun _ => ⟨List.Pairwise.nil, fun _ hm => (nomatch hm)⟩⟩, h2, h3, h4⟩
section
variable {prog : Program} {w : World} {A : Around} {E : Value → Shared → Prop} {s : Shared} {K : Frag}
end
end Att
namespace L2
open PySem PySem.Spec PyProof.Rows
theorem vals_ints : ∀ {vs : List Value} {ns : List Int}, IntsAre vs ns → Vals (ns.map V.int) vs
  | _, _, .nil => .nil
  | _, _, .cons n t h => .cons ⟨t, rfl⟩ (vals_ints h)
end L2
namespace L2
open PySem PySem.Spec PyProof.Rows
end L2
namespace L2
open PySem PySem.Spec PyProof.Rows
def defArgs (s : Stmt) : Arguments := match s with
  | .FunctionDef _ a _ _ _ _ _ _ _ _ => a
  | _ => { posonlyargs := [], args := [], vararg := none, kwonlyargs := [], kw_defaults := [], kwarg := none, defaults := [] }
def defBody (s : Stmt) : List Stmt := match s with
  | .FunctionDef _ _ b _ _ _ _ _ _ _ => b
  | _ => []
def defScope (s : Stmt) : Scope := match s with
  | .FunctionDef _ _ _ _ _ _ sc _ _ _ => sc
  | _ => { kind := .function, names := [], isGenerator := false, isCoroutine := false }
abbrev CX0 : CXT := fun _ _ _ _ _ _ => False
abbrev E0 : XK := fun _ _ _ => False
theorem pass0 {X : Cx} : Passes CX0 X E0 := fun _ _ _ _ _ _ _ h => h.elim
structure Fun (K : PySem.W.Frag) (x qual : Str) (st : Stmt) (f : Addr) (fd : FuncData) : Prop where
  ex : ∃ (oc : Value) (od : Option Addr) (kV doc pm : Value) (an : Option Addr) (cdv ct : Value) (osl : Array (Option Value)),
    fd = PySem.W.fnOf x qual (defArgs st) (defBody st) (defScope st) .none kV doc pm an cdv ct ∧ K.lookup f = some ⟨oc, od, .func fd, osl⟩ ∧ PySem.W.codeIn K cdv qual = true
  kp : PySem.W.keepIn K (.ref f) = true
section
variable {P : Program} {w : World} {K : PySem.W.Frag} {mg : Str → Option Value} {base : Heap}
theorem Fun.ok {x qual : Str} {st : Stmt} {f : Addr} {fd : FuncData} {N ps : List Str} {k : Nat} {sp : Sp} (F : Fun K x qual st f fd) (S : FnScope N ps (defScope st)) (len : ∀ vs H Q E, sp vs H Q E → vs.length = ps.length)
    (hbody : ∀ (cdv : Value) (A : Around) (outer : List Env) (s : Shared) (H : Hp) (vs : List V) (Q : VK) (E : XK), Room k (A.deeper (envOfC qual (defScope st) s.heap.objs.size f cdv)) → sp vs H Q E →
      ∃ t, PSs (cxOf CX0 P w K mg base N qual (defScope st) f cdv A outer s H E).nox (defBody st) t ∧ t { nx := fun _ H' => Q .non H', rt := Q } (start N vs) H) : FnOk P w K mg base CX0 (k + 1) f fd ps sp := by
  obtain ⟨oc, od, kV, doc, pm, an, cdv, ct, osl, rfl, lk, hcd⟩ := F.ex
  refine fn_of lk hcd S len fun A outer s H vs Q E hr hsp => ?_
  obtain ⟨t, h, q⟩ := hbody cdv A outer s H vs Q E hr hsp
  exact ⟨t, h.nox, q⟩
theorem Fun.binds {x qual : Str} {st : Stmt} {f : Addr} {fd : FuncData} {ps : List Str} (F : Fun K x qual st f fd)
    (h : ∀ (kV doc pm : Value) (an : Option Addr) (cdv ct : Value) (us : List Value), us.length = ps.length → bindArgs (PySem.W.fnOf x qual (defArgs st) (defBody st) (defScope st) .none kV doc pm an cdv ct) ⟨us, []⟩ = pure (ps.zip us)) : Binds K fd ps [] := by
  obtain ⟨oc, od, kV, doc, pm, an, cdv, ct, osl, rfl, lk, hcd⟩ := F.ex
  exact .all (h kV doc pm an cdv ct)
theorem fun_mk {x qual : Str} {st : Stmt} {f : Addr} {oc : Value} {od an : Option Addr} {osl : Array (Option Value)} {kV doc pm cdv ct : Value} (l : K.lookup f = some ⟨oc, od, .func (PySem.W.fnOf x qual (defArgs st) (defBody st) (defScope st) .none kV doc pm an cdv ct), osl⟩)
    (c : PySem.W.codeIn K cdv qual = true) (k : PySem.W.keepIn K (.ref f) = true) : Fun K x qual st f (PySem.W.fnOf x qual (defArgs st) (defBody st) (defScope st) .none kV doc pm an cdv ct) := ⟨⟨oc, od, kV, doc, pm, an, cdv, ct, osl, rfl, l, c⟩, k⟩
end
theorem hu_of {A : Around} {k : Nat} (hr : Room k A) : A.units + 1 < cLine := Nat.lt_of_le_of_lt (Nat.add_le_add_left (by decide : 1 ≤ 64) _) hr.units
section
variable {X : Cx}
theorem pv (i : Nat) {x : Str} {pos : Pos} (hN : X.N[i]? = some x := by rfl) (hv : Vis X.env.scope x := by first | exact Or.inl rfl | exact Or.inr (Or.inl rfl) | exact Or.inr (Or.inr rfl)) (hd : (x == ("__debug__" : Str)) = false := by decide)
    (hcd : (x == ("__classdict__" : Str)) = false := by decide) : PE X (.Name x pos) (tVar i) := pe_var hN hv hd hcd
end
theorem iteF {A B : Prop} (h : B) : if false = true then A else B := by
  rw [if_neg Bool.false_ne_true]
  exact h
theorem iteT {A B : Prop} (h : A) : if true = true then A else B := by
  rw [if_pos rfl]
  exact h
theorem ite2 {c A B : Prop} [Decidable c] (h1 : c → A) (h2 : ¬ c → B) : if c then A else B := by
  by_cases h : c
  · rw [if_pos h]
    exact h1 h
  · rw [if_neg h]
    exact h2 h
def Same (H H' : Hp) : Prop := ∀ b o, H b = some o → H' b = some o
theorem Same.refl (H : Hp) : Same H H := fun _ _ h => h
theorem Same.trans {H H1 H2 : Hp} (a : Same H H1) (b : Same H1 H2) : Same H H2 := fun c o h => b c o (a c o h)
theorem Same.free {H H' : Hp} (e : Same H H') {l : Addr} (h : H' l = Option.none) : H l = Option.none := by
  cases q : H l with
  | none => rfl
  | some o =>
    rw [e l o q] at h
    cases h
theorem Same.seq {K : PySem.W.Frag} {H H' : Hp} {a : Addr} {xs : List V} (e : Same H H') (h : SqL K H a xs) : SqL K H' a xs := by
  rcases h with (h | ⟨o, h⟩) | h
  · exact .inl (.inl (e _ _ h))
  · exact .inl (.inr ⟨o, e _ _ h⟩)
  · exact .inr h
end L2
namespace L2
open PySem PySem.Spec PyProof.Rows
section
variable {κ : Type} [DecidableEq κ]
def valV (kvs : List (κ × V)) (k : κ) : Option V := (kvs.find? fun kv => decide (kv.1 = k)).map (·.2)
def putK (kvs : List (κ × V)) (k : κ) (v : V) : List (κ × V) :=
  if (kvs.any fun kv => decide (kv.1 = k)) = true then kvs.map (fun kv => if kv.1 = k then (kv.1, v) else kv) else kvs ++ [(k, v)]
def dropK (kvs : List (κ × V)) (k : κ) : List (κ × V) := kvs.filter fun kv => decide (kv.1 ≠ k)
theorem valV_pos {p : κ × V} {r : List (κ × V)} {k : κ} (e : p.1 = k) : valV (p :: r) k = some p.2 := by simp [valV, List.find?_cons, e]
theorem valV_neg {p : κ × V} {r : List (κ × V)} {k : κ} (e : ¬ p.1 = k) : valV (p :: r) k = valV r k := by simp [valV, List.find?_cons, e]
theorem valV_any (k : κ) : ∀ kvs : List (κ × V), (kvs.any fun kv => decide (kv.1 = k)) = (valV kvs k).isSome
  | [] => rfl
  | p :: r => by
    rw [List.any_cons]
    by_cases e : p.1 = k
    · simp only [valV_pos e, decide_eq_true e, Bool.true_or, Option.isSome_some]
    · rw [valV_neg e, decide_eq_false e, Bool.false_or]; exact valV_any k r
theorem valV_map (k j : κ) (y : V) : ∀ kvs : List (κ × V), valV (kvs.map fun kv => if kv.1 = k then (kv.1, y) else kv) j = (valV kvs j).map fun x => if j = k then y else x
  | [] => rfl
  | p :: r => by
    have ih := valV_map k j y r
    rw [List.map_cons]
    by_cases h : p.1 = k
    · rw [if_pos h]
      by_cases e : p.1 = j
      · rw [valV_pos (p := (p.1, y)) e, valV_pos e, Option.map_some, if_pos (e.symm.trans h)]
      · rw [valV_neg (p := (p.1, y)) e, valV_neg e, ih]
    · rw [if_neg h]
      by_cases e : p.1 = j
      · rw [valV_pos (p := p) e, valV_pos e, Option.map_some, if_neg (fun z => h (e.trans z))]
      · rw [valV_neg (p := p) e, valV_neg e, ih]
theorem valV_snoc (k j : κ) (y : V) : ∀ kvs : List (κ × V), valV kvs k = none → valV (kvs ++ [(k, y)]) j = if j = k then some y else valV kvs j
  | [], _ => by
    by_cases e : k = j
    · rw [if_pos e.symm]; exact valV_pos (p := (k, y)) e
    · rw [if_neg (fun z => e z.symm)]; exact valV_neg (p := (k, y)) e
  | p :: r, hn => by
    rw [List.cons_append]
    have hk : ¬ p.1 = k := fun z => by rw [valV_pos z] at hn; cases hn
    rw [valV_neg hk] at hn
    have ih := valV_snoc k j y r hn
    by_cases e : p.1 = j
    · rw [valV_pos e, valV_pos e, if_neg (fun z => hk (e.trans z))]
    · rw [valV_neg e, valV_neg e, ih]
theorem valV_put (kvs : List (κ × V)) (k j : κ) (y : V) : valV (putK kvs k y) j = if j = k then some y else valV kvs j := by
  unfold putK
  by_cases a : (kvs.any fun kv => decide (kv.1 = k)) = true
  · rw [if_pos a, valV_map]
    rw [valV_any] at a
    by_cases e : j = k
    · obtain ⟨x, hx⟩ := Option.isSome_iff_exists.mp a
      rw [if_pos e, e, hx, Option.map_some, if_pos rfl]
    · rw [if_neg e]
      cases valV kvs j with
      | none => rfl
      | some x => rw [Option.map_some, if_neg e]
  · rw [if_neg a]
    refine valV_snoc k j y kvs ?_
    rw [valV_any] at a
    cases q : valV kvs k with
    | none => rfl
    | some x => rw [q] at a; exact (a rfl).elim
theorem length_putK (kvs : List (κ × V)) (k : κ) (v : V) : (putK kvs k v).length ≤ kvs.length + 1 := by
  unfold putK
  split
  · rw [List.length_map]; omega
  · rw [List.length_append, List.length_cons, List.length_nil]; omega
theorem putK_new {kvs : List (κ × V)} {k : κ} (v : V) (h : valV kvs k = none) : putK kvs k v = kvs ++ [(k, v)] := by
  unfold putK
  rw [valV_any, h]
  exact if_neg (by decide)
theorem RelO.isSome_eq {o : Option V} {u : Option Value} (r : RelO o u) : o.isSome = u.isSome := by
  cases o with
  | none => cases u with
    | none => rfl
    | some _ => exact (show False from r).elim
  | some _ => cases u with
    | none => exact (show False from r).elim
    | some _ => rfl
theorem RelO.getD {o : Option V} {u : Option Value} {d : V} {d' : Value} (r : RelO o u) (rd : RelV d d') : RelV (o.getD d) (u.getD d') := by
  cases o with
  | none => cases u with
    | none => exact rd
    | some _ => exact (show False from r).elim
  | some _ => cases u with
    | none => exact (show False from r).elim
    | some _ => exact r
theorem KV.val {kvs : List (κ × V)} {vs : List (κ × Value)} (r : KV kvs vs) (k : κ) : RelO (valV kvs k) (valueAt vs k) := by
  unfold KV at r
  induction r with
  | nil => exact True.intro
  | @cons p q ps qs h t ih =>
    obtain ⟨h1, h2⟩ := h
    by_cases e : p.1 = k
    · have e' : q.1 = k := h1.symm.trans e
      have b : valueAt (q :: qs) k = some q.2 := by simp [valueAt, List.find?_cons, e']
      rw [valV_pos e, b]; exact h2
    · have e' : ¬ q.1 = k := fun z => e (h1.trans z)
      have b : valueAt (q :: qs) k = valueAt qs k := by simp [valueAt, List.find?_cons, e']
      rw [valV_neg e, b]; exact ih
theorem KV.any {kvs : List (κ × V)} {vs : List (κ × Value)} (r : KV kvs vs) (k : κ) : (kvs.any fun kv => decide (kv.1 = k)) = vs.any fun kv => decide (kv.1 = k) := by
  unfold KV at r
  induction r with
  | nil => rfl
  | cons h t ih => rw [List.any_cons, List.any_cons, ih, h.1]
theorem KV.repl {kvs : List (κ × V)} {vs : List (κ × Value)} (r : KV kvs vs) (k : κ) {y : V} {u : Value} (ry : RelV y u) :
    KV (kvs.map fun kv => if kv.1 = k then (kv.1, y) else kv) (vs.map fun kv => if kv.1 = k then (kv.1, u) else kv) := by
  unfold KV at r ⊢
  induction r with
  | nil => exact .nil
  | @cons p q ps qs h t ih =>
    rw [List.map_cons, List.map_cons]
    refine .cons ?_ ih
    obtain ⟨h1, h2⟩ := h
    by_cases e : p.1 = k
    · rw [if_pos e, if_pos (h1.symm.trans e)]; exact ⟨h1, ry⟩
    · rw [if_neg e, if_neg (fun z => e (h1.trans z))]; exact ⟨h1, h2⟩
theorem KV.put {kvs : List (κ × V)} {vs : List (κ × Value)} (r : KV kvs vs) (k : κ) {y : V} {u : Value} (ry : RelV y u) : KV (putK kvs k y) (stored vs k u) := by
  unfold putK stored
  rw [r.any k]
  by_cases e : (vs.any fun kv => decide (kv.1 = k)) = true
  · rw [if_pos e, if_pos e]; exact r.repl k ry
  · rw [if_neg e, if_neg e]; exact Paired.snoc r ⟨rfl, ry⟩
theorem KV.drop {kvs : List (κ × V)} {vs : List (κ × Value)} (r : KV kvs vs) (k : κ) : KV (dropK kvs k) (without vs k) := by
  unfold KV at r ⊢
  unfold dropK without
  induction r with
  | nil => exact .nil
  | @cons p q ps qs h t ih =>
    obtain ⟨h1, h2⟩ := h
    rw [List.filter_cons, List.filter_cons]
    by_cases e : p.1 = k
    · have a : ¬ decide (p.1 ≠ k) = true := by simp [e]
      have b : ¬ decide (q.1 ≠ k) = true := by simp [h1.symm.trans e]
      rw [if_neg a, if_neg b]; exact ih
    · have e' : ¬ q.1 = k := fun z => e (h1.trans z)
      have a : decide (p.1 ≠ k) = true := by simp [e]
      have b : decide (q.1 ≠ k) = true := by simp [e']
      rw [if_pos a, if_pos b]; exact .cons ⟨h1, h2⟩ ih
theorem KV.keys {kvs : List (κ × V)} {vs : List (κ × Value)} (r : KV kvs vs) : kvs.map (·.1) = vs.map (·.1) := by
  unfold KV at r
  induction r with
  | nil => rfl
  | cons h t ih => rw [List.map_cons, List.map_cons, ih, h.1]
theorem KV.length {kvs : List (κ × V)} {vs : List (κ × Value)} (r : KV kvs vs) : kvs.length = vs.length := Paired.length r
end
theorem kV_is {P : Program} {w : World} {k : Key} {u : Value} (r : RelV (kV k) u) : (mixKind P w).is k u = true := by
  cases k with
  | inl i => obtain ⟨t, e⟩ := (show ∃ t, u = Value.int i t from r); subst e; exact mixKind_int P w i t
  | inr x => obtain ⟨t, e⟩ := (show ∃ t, u = Value.str x t from r); subst e; exact mixKind_str P w x t
theorem items_are {P : Program} {w : World} : ∀ {ks : List Key} {us : List Value}, Vals (ks.map kV) us → ItemsAre (mixKind P w) ks us
  | [], _, r => by rw [List.map_nil] at r; cases r; exact .nil
  | k :: ks, _, r => by
    rw [List.map_cons] at r
    cases r with
    | cons h t => exact .cons (kV_is h) (items_are t)
abbrev KT (H : Hp) : List (List Key × V) → List (List Key × Addr × Value) → Prop := Paired fun p q => p.1 = q.1 ∧ H q.2.1 = some (.tup (p.1.map kV)) ∧ RelV p.2 q.2.2
theorem KT.val {H : Hp} {kvs : List (List Key × V)} {xs : List (List Key × Addr × Value)} (r : KT H kvs xs) (k : List Key) : RelO (valV kvs k) ((atKey xs k).map (·.2)) := by
  induction r with
  | nil => exact True.intro
  | @cons p q ps qs h t ih =>
    obtain ⟨h1, _, h2⟩ := h
    by_cases e : p.1 = k
    · have e' : q.1 = k := h1.symm.trans e
      have b : atKey (q :: qs) k = some q.2 := by simp [atKey, List.find?_cons, e']
      rw [valV_pos e, b]; exact h2
    · have e' : ¬ q.1 = k := fun z => e (h1.trans z)
      have b : atKey (q :: qs) k = atKey qs k := by simp [atKey, List.find?_cons, e']
      rw [valV_neg e, b]; exact ih
theorem KT.repl {H : Hp} {kvs : List (List Key × V)} {xs : List (List Key × Addr × Value)} (r : KT H kvs xs) (k : List Key) {y : V} {u : Value} (ry : RelV y u) :
    KT H (kvs.map fun kv => if kv.1 = k then (kv.1, y) else kv) (xs.map (putAt k u)) := by
  induction r with
  | nil => exact .nil
  | @cons p q ps qs h t ih =>
    rw [List.map_cons, List.map_cons]
    refine .cons ?_ ih
    obtain ⟨h1, h2, h3⟩ := h
    unfold putAt
    by_cases e : p.1 = k
    · rw [if_pos e, if_pos (h1.symm.trans e)]; exact ⟨h1, h2, ry⟩
    · rw [if_neg e, if_neg (fun z => e (h1.trans z))]; exact ⟨h1, h2, h3⟩
theorem KT.put {H : Hp} {kvs : List (List Key × V)} {xs : List (List Key × Addr × Value)} (r : KT H kvs xs) (k : List Key) {b : Addr} {y : V} {u : Value} (hb : H b = some (.tup (k.map kV))) (ry : RelV y u) :
    KT H (putK kvs k y) (storedH xs k b u) := by
  have e : (kvs.any fun kv => decide (kv.1 = k)) = (atKey xs k).isSome := by
    rw [valV_any, (r.val k).isSome_eq, Option.isSome_map]
  unfold putK storedH
  rw [e]
  by_cases q : (atKey xs k).isSome = true
  · rw [if_pos q, if_pos q]; exact r.repl k ry
  · rw [if_neg q, if_neg q]; exact Paired.snoc r ⟨rfl, hb, ry⟩
theorem KT.keeps {H H' : Hp} {kvs : List (List Key × V)} {xs : List (List Key × Addr × Value)} (r : KT H kvs xs) (ht : ∀ b ys, H b = some (.tup ys) → H' b = some (.tup ys)) : KT H' kvs xs :=
  Paired.mapP r fun _ _ z => ⟨z.1, ht _ _ z.2.1, z.2.2⟩
section
variable {P : Program} {w : World} {H : Hp} {h : Heap} {a : Addr}
theorem rd_of {u : HO} (ok : HOk P w H h) (e : Rd H a u) : ObjOk P w H h a u := e.ok ok
theorem dk_rd {kvs : List (Key × V)} (ok : HOk P w H h) (e : Rd H a (.dK kvs)) : kvs.length ≤ sizeLine ∧ (a == sysModules) = false ∧ ∃ vs, KV kvs vs ∧ h.DictOf (mixKind P w) a vs :=
  show ObjOk P w H h a (.dK kvs) from rd_of ok e
theorem dk_of {kvs : List (Key × V)} (ok : HOk P w H h) (e : H a = some (.dK kvs)) : kvs.length ≤ sizeLine ∧ (a == sysModules) = false ∧ ∃ vs, KV kvs vs ∧ h.DictOf (mixKind P w) a vs := dk_rd ok (.inl e)
theorem key_of {ks : List Key} (ok : HOk P w H h) (e : H a = some (.tup (ks.map kV))) : (tupleKind (mixKind P w)).is h ks a := by
  obtain ⟨_, its, r, o, h1, h2, n, h3⟩ := (show ObjOk P w H h a (.tup (ks.map kV)) from ok a _ e)
  exact ⟨o, its.toArray, n, h1, h2, h3, by simpa using items_are r⟩
theorem dt_rd {kvs : List (List Key × V)} (ok : HOk P w H h) (e : Rd H a (.dT kvs)) : kvs.length ≤ sizeLine ∧ (a == sysModules) = false ∧
    ∃ xs, KT H kvs xs ∧ h.DictOfH (tupleKind (mixKind P w)) a xs := by
  obtain ⟨z, y, xs, r, o, es, ep, h1, h2, h3, h4, h5⟩ := (show ObjOk P w H h a (.dT kvs) from rd_of ok e)
  refine ⟨z, y, xs, r, o, es, ep, h1, h2, h3, h4, fun x hx => ?_, h5⟩
  have all : ∀ {l : List (List Key × V)} {m : List (List Key × Addr × Value)}, KT H l m → ∀ x ∈ m, (tupleKind (mixKind P w)).is h x.1 x.2.1 := by
    intro l m q
    induction q with
    | nil => intro x hx; exact nomatch hx
    | @cons p q ps qs hq t ih =>
      intro x hx
      rcases List.mem_cons.mp hx with e | hx
      · subst e
        exact key_of ok (by rw [← hq.1]; exact hq.2.1)
      · exact ih x hx
  exact all r x hx
theorem dt_of {kvs : List (List Key × V)} (ok : HOk P w H h) (e : H a = some (.dT kvs)) : kvs.length ≤ sizeLine ∧ (a == sysModules) = false ∧
    ∃ xs, KT H kvs xs ∧ h.DictOfH (tupleKind (mixKind P w)) a xs := dt_rd ok (.inl e)
end
def DGet (H : Hp) (a : Addr) (y : V) (r : Option V) : Prop :=
  (∃ kvs k, Rd H a (.dK kvs) ∧ y = kV k ∧ r = valV kvs k) ∨ ∃ kvs k b, Rd H a (.dT kvs) ∧ y = .ref b ∧ H b = some (.tup (k.map kV)) ∧ r = valV kvs k
def DPut (H : Hp) (a : Addr) (y v : V) (H' : Hp) : Prop :=
  (∃ kvs k, H a = some (.dK kvs) ∧ y = kV k ∧ kvs.length < sizeLine ∧ H' = upd H a (.dK (putK kvs k v))) ∨
  ∃ kvs k b, H a = some (.dT kvs) ∧ y = .ref b ∧ H b = some (.tup (k.map kV)) ∧ kvs.length < sizeLine ∧ H' = upd H a (.dT (putK kvs k v))
theorem DGet.k {H : Hp} {a : Addr} {kvs : List (Key × V)} {k : Key} (e : H a = some (.dK kvs)) : DGet H a (kV k) (valV kvs k) := .inl ⟨kvs, k, .inl e, rfl, rfl⟩
theorem DGet.t {H : Hp} {a b : Addr} {kvs : List (List Key × V)} {k : List Key} (e : H a = some (.dT kvs)) (eb : H b = some (.tup (k.map kV))) : DGet H a (.ref b) (valV kvs k) := .inr ⟨kvs, k, b, .inl e, rfl, eb, rfl⟩
theorem DPut.k {H : Hp} {a : Addr} {kvs : List (Key × V)} {k : Key} {v : V} (e : H a = some (.dK kvs)) (hl : kvs.length < sizeLine) : DPut H a (kV k) v (upd H a (.dK (putK kvs k v))) := .inl ⟨kvs, k, e, rfl, hl, rfl⟩
theorem DPut.t {H : Hp} {a b : Addr} {kvs : List (List Key × V)} {k : List Key} {v : V} (e : H a = some (.dT kvs)) (eb : H b = some (.tup (k.map kV))) (hl : kvs.length < sizeLine) :
    DPut H a (.ref b) v (upd H a (.dT (putK kvs k v))) := .inr ⟨kvs, k, b, e, rfl, eb, hl, rfl⟩
section
variable {X : Cx} {pins : List (Addr × Obj)} {σ : St} {H : Hp} {s : Shared} {a : Addr} {y v : V} {u r : Value} {o : Option V} {A : Around} {E : Value → Shared → Prop}
theorem Inv.big (I : Inv X pins σ H s) : sysModules < s.heap.objs.size := by
  have h : mainGlobals < s.heap.objs.size := (I.mod.glob.keeps I.bk).lt
  exact Nat.lt_trans (by decide) h
theorem d_getItem {Q : Value → Shared → Prop} (hu : A.units + 1 < cLine) (I : Inv X pins σ H s) (g : DGet H a y (some v)) (ry : RelV y u) (h : ∀ w' s', Inv X pins σ H s' → RelV v w' → Q w' s') :
    wpAny (model X.prog X.w) A (getItem (.ref a) u) Q E s := by
  rcases g with ⟨kvs, k, e, ey, l⟩ | ⟨kvs, k, b, e, ey, eb, l⟩
  · subst ey
    obtain ⟨z, hd, vs, rel, dd⟩ := dk_rd I.hok e
    obtain ⟨w', hw, rw'⟩ := RelO.some_of (v := v) (o := valueAt vs k) (by rw [l]; exact rel.val k)
    exact wpAny_getItem_of (kV_is ry) dd.mapOf hw (h w' _ (I.tok _) rw')
  · subst ey
    cases (show u = Value.ref b from ry)
    obtain ⟨z, hd, xs, rel, dd⟩ := dt_rd I.hok e
    obtain ⟨w', hw, rw'⟩ := RelO.some_of (v := v) (o := (atKey xs k).map (·.2)) (by rw [l]; exact rel.val k)
    obtain ⟨p, hp, hp2⟩ := Option.map_eq_some_iff.mp hw
    refine wpAny_getItem_heap (tupleKind_room_in1 hu) (key_of I.hok eb) dd hp ?_
    rw [hp2]
    exact h w' _ (I.tok _) rw'
theorem d_notIn {Q : Value → Shared → Prop} (hu : A.units + 1 < cLine) (I : Inv X pins σ H s) (g : DGet H a y o) (ry : RelV y u) (h : ∀ s', Inv X pins σ H s' → Q (.bool (!o.isSome)) s') :
    wpAny (model X.prog X.w) A (compareOp .NotIn u (.ref a)) Q E s := by
  rcases g with ⟨kvs, k, e, ey, l⟩ | ⟨kvs, k, b, e, ey, eb, l⟩
  · subst ey
    obtain ⟨z, hd, vs, rel, dd⟩ := dk_rd I.hok e
    refine wpAny_notIn_of (kV_is ry) hd dd.mapOf ?_
    rw [← (rel.val k).isSome_eq, ← l]
    exact h _ (I.tok _)
  · subst ey
    cases (show u = Value.ref b from ry)
    obtain ⟨z, hd, xs, rel, dd⟩ := dt_rd I.hok e
    refine wpAny_notIn_heap (tupleKind_room_in1 hu) (key_of I.hok eb) hd dd ?_
    have q := (rel.val k).isSome_eq
    rw [Option.isSome_map] at q
    rw [← q, ← l]
    exact h _ (I.tok _)
theorem d_write {h' : Heap} {t' : Nat} {ob : HO} (I : Inv X pins σ H s) (mu : Mut (H a)) (hs : Heap.SameBut a s.heap h') (he : ∃ q, h'.get? a = some q) (new : ObjOk X.prog X.w (upd H a ob) h' a ob) :
    Inv X pins σ (upd H a ob) { s with heap := h', toks := t' } :=
  I.write (x := a) (e := a) mu (.inl rfl) (fun b q hb z => (hs.2 b hb).trans z) he new
theorem dk_new {P : Program} {w : World} {H' : Hp} {h' : Heap} {kvs : List (Key × V)} {vs : List (Key × Value)} (z : kvs.length ≤ sizeLine) (hd : (a == sysModules) = false) (rel : KV kvs vs) (dd : h'.DictOf (mixKind P w) a vs) :
    ObjOk P w H' h' a (.dK kvs) := ⟨z, hd, vs, rel, dd⟩
theorem d_setItem {H' : Hp} {Q : Unit → Shared → Prop} (hu : A.units + 1 < cLine) (I : Inv X pins σ H s) (g : DPut H a y v H') (ry : RelV y u) (rv : RelV v r) (h : ∀ s', Inv X pins σ H' s' → Q () s') :
    wpAny (model X.prog X.w) A (setItem (.ref a) u r) Q E s := by
  rcases g with ⟨kvs, k, e, ey, l, eH⟩ | ⟨kvs, k, b, e, ey, eb, l, eH⟩
  · subst ey eH
    obtain ⟨z, hd, vs, rel, dd⟩ := dk_of I.hok e
    have hz : vs.length ≤ sizeLine := by rw [← rel.length]; exact z
    have hl : (putK kvs k v).length ≤ sizeLine := by have := length_putK kvs k v; omega
    refine wpAny_setItem_pairs (hsz := hz) (kV_is ry) dd fun h' dd' hs => h _ ?_
    have he : ∃ q, h'.get? a = some q := let ⟨q, _, _, hq, _⟩ := dd'; ⟨q, hq⟩
    exact d_write I (by rw [e]; exact True.intro) hs he (dk_new hl hd (rel.put k rv) dd')
  · subst ey eH
    cases (show u = Value.ref b from ry)
    obtain ⟨z, hd, xs, rel, dd⟩ := dt_of I.hok e
    have hz : xs.length ≤ sizeLine := by rw [← Paired.length rel]; exact z
    have hl : (putK kvs k v).length ≤ sizeLine := by have := length_putK kvs k v; omega
    refine wpAny_setItem_heap (hsz := hz) (tupleKind_room_in1 hu) (key_of I.hok eb) dd fun h' dd' hs => h _ ?_
    obtain ⟨q, es, ep, hq, h2, h3, h4, _, h5⟩ := dd'
    refine d_write I (by rw [e]; exact True.intro) hs ⟨q, hq⟩ ⟨hl, hd, _, (rel.put k eb rv).keeps fun c ys ec => ?_, q, es, ep, hq, h2, h3, h4, h5⟩
    rw [upd_ne (ne_of ec e (fun z => nomatch z))]
    exact ec
end
section
variable {X : Cx} {pins : List (Addr × Obj)} {σ : St} {H : Hp} {s : Shared} {a : Addr} {kvs : List (Key × V)} {k : Key} {u : Value} {A : Around} {E : Value → Shared → Prop}
end
def NoSl (i : Expr) : Prop := ∀ ov iv, subscripted i false ov iv = operate [ov, iv] (getItem ov iv)
theorem subD_of {prog : Program} {w : World} {A : Around} {E : Value → Shared → Prop} {s : Shared} {env : Env} {value slice : Expr} {pos : Pos} {T id : String} {Q : Value → Shared → Prop}
    (hl : typeLookup (.type T) "__getitem__" = pure (some (.builtin id))) (hs : NoSl slice)
    (h : wpAny (model prog w) A (eval value env) (fun o s₁ => wpAny (model prog w) A (eval slice env) (fun i s₂ => s₂.TypeIs o T ∧ wpAny (model prog w) A (getItem o i) Q E s₂) E s₁) E s) :
    wpAny (model prog w) A (eval (.Subscript value slice pos) env) Q E s := by
  refine Subscript_ (wpAny_mono h (fun o s₁ h₁ => wpAny_mono h₁ (fun i s₂ h₂ => ?_) fun _ _ x => x) fun _ _ x => x)
  obtain ⟨hT, h₂⟩ := h₂
  unfold subscriptTail
  refine wpAny_bind ?_
  rw [getitemInPython_of_ne hT.not_modules]
  refine wpAny_bind (wpAny_specialOf hT hl ?_)
  have fin : wpAny (model prog w) A (subscripted slice false o i) (fun r s₃ => wpAny (model prog w) A (letTemporaryGo value o r >>= fun _ => pure r) Q E s₃) E s₂ := by
    rw [hs o i]
    exact wpAny_operating (wpAny_mono h₂ (fun r s₃ h₃ => wpAny_bind (wpAny_letTemporaryGo (wpAny_pure h₃))) fun _ _ x => x)
  first
    | exact wpAny_pure (wpAny_bind fin)
    | exact wpAny_bind (wpAny_pure (wpAny_bind fin))
    | exact wpAny_bind fin
theorem dict_typeIs {X : Cx} {pins : List (Addr × Obj)} {σ : St} {H : Hp} {s : Shared} {a : Addr} {y : V} {o : Option V} (I : Inv X pins σ H s) (g : DGet H a y o) : s.TypeIs (.ref a) "dict" := by
  rcases g with ⟨kvs, k, e, _, _⟩ | ⟨kvs, k, b, e, _, _, _⟩
  · obtain ⟨_, _, vs, _, dd⟩ := dk_rd I.hok e
    exact dd.typeIs
  · obtain ⟨_, _, xs, _, dd⟩ := dt_rd I.hok e
    exact dd.typeIs
def tDGet (td ty : TE) : TE := fun σ H Q => td σ H fun x H1 => ty σ H1 fun y H2 => ∃ a v, x = .ref a ∧ DGet H2 a y (some v) ∧ Q v H2
def tDNotIn (ty td : TE) : TE := fun σ H Q => ty σ H fun y H1 => td σ H1 fun x H2 => ∃ a o, x = .ref a ∧ DGet H2 a y o ∧ Q (.bl (!o.isSome)) H2
def sDPut (td ty tv : TE) : TS := fun D σ H => tv σ H fun v H1 => td σ H1 fun x H2 => ty σ H2 fun y H3 => ∃ a H4, x = .ref a ∧ DPut H3 a y v H4 ∧ D.nx σ H4
section
variable {X : Cx} {o i e value : Expr} {pos pos' tpos : Pos} {td ty tv : TE}
theorem pe_dget (hu : X.A.units + 1 < cLine) (ho : PE X o td) (hi : PE X i ty) (hs : NoSl i) : PE X (.Subscript o i pos) (tDGet td ty) := by
  intro pins s σ H Q I h
  refine subD_of PySem.F.slot_dict_getitem.lookup hs (thn (ho pins s σ H _ I h) fun u s1 ⟨x, H1, I1, rx, q1⟩ => thn (hi pins s1 σ H1 _ I1 q1) fun iv s2 ⟨y, H2, I2, ry, a, v, ex, g, q2⟩ => ?_)
  subst ex
  obtain rfl : u = Value.ref a := rx
  exact ⟨dict_typeIs I2 g, d_getItem hu I2 g ry fun w' s3 I3 rw' => ⟨v, H2, I3, rw', q2⟩⟩
theorem pc_dnotin (hu : X.A.units + 1 < cLine) (hi : PE X i ty) (ho : PE X o td) : PC X .NotIn i o (tDNotIn ty td) := by
  intro pins s σ H Q I h
  refine thn (hi pins s σ H _ I h) fun iv s1 ⟨y, H1, I1, ry, q1⟩ => thn (ho pins s1 σ H1 _ I1 q1) fun u s2 ⟨x, H2, I2, rx, a, ov, ex, g, q2⟩ => ?_
  subst ex
  obtain rfl : u = Value.ref a := rx
  exact d_notIn hu I2 g ry fun s3 I3 => ⟨.bl (!ov.isSome), H2, I3, rfl, q2⟩
theorem ps_dput (hu : X.A.units + 1 < cLine) (ho : PE X o td) (hi : PE X i ty) (hv : PE X value tv) (hs : swapsWith value (some (.Subscript o i pos')) pos.line X.env = pure false) :
    PS X (.Assign [.Subscript o i pos'] value pos) (sDPut td ty tv) := by
  intro pins s σ H D I h
  refine wpAny_Assign_Subscript (thn (hv pins s σ H _ I h) fun r s1 ⟨v, H1, I1, rv, q1⟩ => thn (ho pins s1 σ H1 _ I1 q1) fun u s2 ⟨x, H2, I2, rx, q2⟩ => thn (hi pins s2 σ H2 _ I2 q2) fun iv s3 ⟨y, H3, I3, ry, a, H4, ex, g, q3⟩ => ?_) hs
  subst ex
  obtain rfl : u = Value.ref a := rx
  exact d_setItem hu I3 g ry rv fun s4 I4 => ⟨σ, H4, I4, q3⟩
end
theorem dk_empty {P : Program} {w : World} {H : Hp} (h : Heap) (hb : sysModules < h.objs.size) : ObjOk P w H (h.push { cls := .type "dict", data := .dict #[] }) h.objs.size (.dK []) :=
  ⟨Nat.zero_le _, beq_eq_false_iff_ne.mpr (Ne.symm (Nat.ne_of_lt hb)), [], .nil, Heap.DictOf.new h⟩
theorem dt_empty {P : Program} {w : World} {H : Hp} (h : Heap) (hb : sysModules < h.objs.size) : ObjOk P w H (h.push { cls := .type "dict", data := .dict #[] }) h.objs.size (.dT []) :=
  ⟨Nat.zero_le _, beq_eq_false_iff_ne.mpr (Ne.symm (Nat.ne_of_lt hb)), [], .nil, _, #[], 0, Heap.get?_push_size _ rfl, ⟨rfl, rfl, rfl⟩, rfl, rfl, List.nodup_nil⟩
def tDNewK : TE := fun _ H Q => ∀ p, H p = none → Q (.ref p) (upd H p (.dK []))
section
variable {X : Cx} {pos : Pos}
theorem pe_dnewK : PE X (.Dict [] [] pos) tDNewK := fun pins s σ H Q I h =>
  wpAny_Dict_empty ⟨.ref s.heap.objs.size, _, I.laid (a := s.heap.objs.size) (o := .dK []) (t' := s.toks) (fun _ _ q => Heap.get?_push_of_some _ q) (Nat.le_refl _) (dk_empty s.heap I.big), rfl, h _ (I.hok.fresh (Nat.le_refl _))⟩
end
def tPairs : List (TE × TE) → St → Hp → (List (V × V) → Hp → Prop) → Prop
  | [], _, H, Q => Q [] H
  | (tk, tv) :: r, σ, H, Q => tk σ H fun x H1 => tv σ H1 fun y H2 => tPairs r σ H2 fun ps H3 => Q ((x, y) :: ps) H3
abbrev VV : List (V × V) → List (Value × Value) → Prop := Paired fun p q => RelV p.1 q.1 ∧ RelV p.2 q.2
def PPs (X : Cx) (pos : Pos) (keys : List (Option Expr)) (values : List Expr) (trs : List (TE × TE)) : Prop :=
  ∀ (pins : List (Addr × Obj)) (s : Shared) (σ : St) (H : Hp) (Q : List (V × V) → Hp → Prop), Inv X pins σ H s → tPairs trs σ H Q →
    wpAny (model X.prog X.w) X.A (evalPairs (pairTrees keys values X.env pos)) (fun vs s' => ∃ ps H', Inv X pins σ H' s' ∧ VV ps vs ∧ Q ps H') X.xe s
theorem pps_nil {X : Cx} {pos : Pos} : PPs X pos [] [] [] := fun pins s σ H Q I h => pairTrees_nil_walk ⟨[], H, I, .nil, h⟩
theorem pps_cons {X : Cx} {pos : Pos} {k v : Expr} {ks : List (Option Expr)} {vs : List Expr} {tk tv : TE} {trs : List (TE × TE)} (hk : PE X k tk) (hv : PE X v tv) (hr : PPs X pos ks vs trs) :
    PPs X pos (some k :: ks) (v :: vs) ((tk, tv) :: trs) := fun pins s σ H Q I h =>
  pairTrees_cons_walk (thn (hk pins s σ H _ I h) fun u s1 ⟨x, H1, I1, rx, q1⟩ => thn (hv pins s1 σ H1 _ I1 q1) fun w2 s2 ⟨y, H2, I2, ry, q2⟩ =>
    thn (hr pins s2 σ H2 _ I2 q2) fun ws s3 ⟨ps, H3, I3, rel, q3⟩ => ⟨(x, y) :: ps, H3, I3, .cons ⟨rx, ry⟩ rel, q3⟩)
def mergeK (kvs more : List (Key × V)) : List (Key × V) := more.foldl (fun acc kv => putK acc kv.1 kv.2) kvs
theorem KV.merge : ∀ {more : List (Key × V)} {rs : List (Key × Value)} {kvs : List (Key × V)} {vs : List (Key × Value)}, KV more rs → KV kvs vs → KV (mergeK kvs more) (merged vs rs) := by
  intro more rs kvs vs r
  unfold KV at r
  induction r generalizing kvs vs with
  | nil => intro q; exact q
  | @cons p q ps qs h t ih =>
    intro r0
    have e : KV (putK kvs p.1 p.2) (stored vs q.1 q.2) := by
      have := r0.put p.1 h.2
      rw [← h.1]; exact this
    exact ih e
theorem length_mergeK : ∀ (more kvs : List (Key × V)), (mergeK kvs more).length ≤ kvs.length + more.length
  | [], kvs => by show kvs.length ≤ kvs.length + 0; omega
  | p :: r, kvs => by
    have h1 := length_mergeK r (putK kvs p.1 p.2)
    have h2 := length_putK kvs p.1 p.2
    show (mergeK (putK kvs p.1 p.2) r).length ≤ _
    rw [List.length_cons]; omega
theorem carries_of {P : Program} {w : World} : ∀ {kvs : List (Key × V)} {ws : List (Value × Value)}, VV (kvs.map fun kv => (kV kv.1, kv.2)) ws → ∃ rs, Carries (mixKind P w) ws rs ∧ KV kvs rs
  | [], _, r => by rw [List.map_nil] at r; cases r; exact ⟨[], True.intro, .nil⟩
  | p :: kvs, _, r => by
    rw [List.map_cons] at r
    cases r with
    | @cons a b as bs h t =>
      obtain ⟨rs, c, q⟩ := carries_of (P := P) (w := w) t
      obtain ⟨b1, b2⟩ := b
      exact ⟨(p.1, b2) :: rs, ⟨kV_is h.1, rfl, c⟩, .cons ⟨rfl, h.2⟩ q⟩
def tDisp (trs : List (TE × TE)) : TE := fun σ H Q => ∀ p, H p = none → tPairs trs σ (upd H p (.dK [])) fun ps H2 => H2 p = some (.dK []) ∧ ∃ kvs : List (Key × V), ps = kvs.map (fun kv => (kV kv.1, kv.2)) ∧ kvs.length ≤ 15 ∧ Q (.ref p) (upd H2 p (.dK (mergeK [] kvs)))
theorem pe_disp {X : Cx} {pos : Pos} {keys : List (Option Expr)} {values : List Expr} {trs : List (TE × TE)} (h : PPs X pos keys values trs) (hall : keys.all (·.isSome) = true) (hl : keys.length = values.length) (h0 : keys ≠ [])
    (h15 : keys.length ≤ 15) : PE X (.Dict keys values pos) (tDisp trs) := by
  intro pins s σ H Q I q
  have hn := I.hok.fresh (Nat.le_refl s.heap.objs.size)
  have I1 := I.laid (a := s.heap.objs.size) (o := .dK []) (h' := s.heap.push { cls := .type "dict", data := .dict #[] }) (t' := s.toks) (fun _ _ q => Heap.get?_push_of_some _ q) (Nat.le_refl _) (dk_empty s.heap I.big)
  refine wpAny_Dict_walk (knd := mixKind X.prog X.w) hall hl h0 h15 (thn (h pins _ σ _ _ I1 (q _ hn)) fun ws s2 ⟨ps, H2, I2, rel, e, kvs, ep, lk, q2⟩ => ?_)
  subst ep
  obtain ⟨rs, c, rk⟩ := carries_of (P := X.prog) (w := X.w) rel
  obtain ⟨z, hd, vs0, r0, dd⟩ := dk_of I2.hok e
  cases r0
  refine ⟨rs, c, dd, fun h' dd' hs => ⟨.ref s.heap.objs.size, _, ?_, rfl, q2⟩⟩
  have hz : (mergeK [] kvs).length ≤ sizeLine := by
    have h1 := length_mergeK kvs []
    rw [List.length_nil] at h1
    rw [sizeLine_eq]; omega
  have he : ∃ q, h'.get? s.heap.objs.size = some q := let ⟨q, _, _, hq, _⟩ := dd'; ⟨q, hq⟩
  exact d_write I2 (by rw [e]; exact True.intro) hs he (dk_new hz hd (rk.merge .nil) dd')
structure M2 (X : Cx) (o : Expr) (m : Str) (apos : Pos) (e f : Expr) (cpos : Pos) : Prop where
  base : attributeBase o m X.env (eval o X.env) = eval o X.env
  few : ((backTo cpos (starEach [e, f] X.env)).all (fun x => !x.1) && (backToKw cpos (keywordEach [] X.env)).all (fun x => x.1.isSome)
    && decide (([e, f] : List Expr).length + ([] : List Keyword).length + (if ([] : List Keyword).isEmpty then 0 else 1) < 30)) = true
  line : (apos.endLine == cpos.line) = true
  trees : backTo cpos (starEach [e, f] X.env) = [(false, eval e X.env), (false, eval f X.env)]
def IsD (H : Hp) (a : Addr) : Prop := (∃ kvs, Rd H a (.dK kvs)) ∨ ∃ kvs, Rd H a (.dT kvs)
theorem isD_at {X : Cx} {pins : List (Addr × Obj)} {σ : St} {H : Hp} {s : Shared} {a : Addr} (I : Inv X pins σ H s) (d : IsD H a) :
    s.TypeIs (.ref a) "dict" ∧ (∀ b, Value.ref a = .ref b → ∃ ob, s.heap.get? b = some ob ∧ ob.dict = none) ∧ (a == sysModules) = false := by
  rcases d with ⟨kvs, e⟩ | ⟨kvs, e⟩
  · obtain ⟨_, hd, vs, _, dd⟩ := dk_rd I.hok e
    refine ⟨dd.typeIs, fun b q => ?_, hd⟩
    cases q
    obtain ⟨ob, _, _, h1, h2, _⟩ := dd
    exact ⟨ob, h1, h2.2.1⟩
  · obtain ⟨_, hd, xs, _, dd⟩ := dt_rd I.hok e
    refine ⟨dd.typeIs, fun b q => ?_, hd⟩
    cases q
    obtain ⟨ob, _, _, h1, h2, _⟩ := dd
    exact ⟨ob, h1, h2.2.1⟩
section
variable {X : Cx} {pins : List (Addr × Obj)} {σ : St} {H : Hp} {s : Shared} {a : Addr} {y d : V} {u r : Value} {o : Option V} {A : Around} {E : Value → Shared → Prop}
end
section
variable {X : Cx} {o e f : Expr} {apos cpos : Pos} {td ty tx : TE}
end
section
variable {X : Cx} {pins : List (Addr × Obj)} {σ : St} {H : Hp} {s : Shared} {a : Addr} {kvs : List (Key × V)} {A : Around} {E : Value → Shared → Prop}
end
section
variable {X : Cx} {pins : List (Addr × Obj)} {σ : St} {H : Hp} {s : Shared} {a : Addr} {y : V} {u : Value} {A : Around} {E : Value → Shared → Prop}
end
end L2
set_option Elab.async false
set_option linter.all false
set_option maxRecDepth 100000
set_option maxHeartbeats 4000000
namespace L2
open PySem PySem.Spec PyProof.Rows
section
variable {X : Cx} {pins : List (Addr × Obj)} {σ : List (Option V)} {H H' : Hp} {s : Shared} {h' : Heap}
theorem Inv.turnLaid {t' : Nat} {ch : List Addr} {p : Addr} {o : HO} (I : Inv X pins σ H s) (hf : ∀ b ∈ ch, FpOk X pins H b)
    (k : ∀ b u, b ∉ ch → s.heap.get? b = some u → h'.get? b = some u) (hp : s.heap.objs.size ≤ p) (new : ObjOk X.prog X.w (upd H p o) h' p o) :
    Inv X pins σ (upd H p o) { s with heap := h', toks := t' } := by
  have hn : H p = none := I.hok.fresh hp
  have nch : ∀ b u, H b = some u → b ∉ ch := fun b u e z => by have q := (hf b z).1; rw [e] at q; cases q
  have old : ∀ b u, s.heap.get? b = some u → b ≠ p := fun b u e => Nat.ne_of_lt (Nat.lt_of_lt_of_le (Heap.lt_size e) hp)
  have keepH : ∀ b u, H b = some u → upd H p o b = some u := fun b u e => by rw [upd_ne (ne_of_none e hn)]; exact e
  refine I.step (g' := s.gens) (d' := s.drawn) (ch := ch) (fun b hb => ?_) (fun b o _ _ hc e _ => k b o hc e) (fun b o _ _ hc e _ => ⟨o.slots, k b o hc e⟩) (fun b o _ e n => by rw [upd_ne (old b o e)]; exact n)
    (fun b o hc e => ⟨o, k b o hc e⟩) (fun b xs e => keepH b _ e) (fun b _ _ e => keepH b _ e) (fun b ps e => ⟨#[], by rw [keepH b _ e]; simp⟩) (fun m hm => ?_) (fun b u e => ?_) I.bare
  · obtain ⟨f0, f1, f2, f3, f4, f5⟩ := hf b hb
    exact ⟨f3, f1, f4, f5⟩
  · obtain ⟨ob, es, ep, ho, r⟩ := hm
    exact ⟨ob, es, ep, k _ ob (fun z => (hf _ z).2.1 rfl) ho, r⟩
  · by_cases hb : b = p
    · subst hb; rw [upd_same] at e; cases e; exact new
    · rw [upd_ne hb] at e
      refine (I.hok b u e).stay (fun c v hc q => k c v ?_ q) (fun c q => keepH c _ q) fun c xs q => keepH c _ q
      rcases hc with z | z
      · rw [z]; exact nch b u e
      · exact nch c _ z
end
def Itn (K : PySem.W.Frag) (a : Addr) : It :=
  ⟨fun i H => ∃ xs x, SqL K H a xs ∧ xs[i]? = some x,
   fun i H x H' => ∃ y p, (∀ xs, SqL K H a xs → xs[i]? = some y) ∧ H p = none ∧ x = .ref p ∧ H' = upd H p (.tup [.int i, y]),
   fun i H => ∃ xs, SqL K H a xs ∧ xs.length ≤ i⟩
theorem turn_enum {P : Program} {w : World} {K : PySem.W.Frag} {elts : List Expr} {x1} {tpos : Pos} (a e it : Addr) (hne : e ≠ it) :
    Turn P w K (.Tuple elts x1 tpos) (Itn K a) [e, it] e (fun i h => (∃ old, IsEnum h e it i old) ∧ h.IsListIter it a i) where
  mem := by simp
  obj := fun i h st b hb => by
    obtain ⟨⟨old, st1⟩, st2⟩ := st
    rcases List.mem_cons.mp hb with z | z
    · subst z; exact ⟨_, st1, fun v z => by cases z⟩
    · have z' : b = it := by simpa using z
      subst z'
      obtain ⟨o, e, c, d⟩ := st2
      exact ⟨o, e, fun v z => by rw [d] at z; cases z⟩
  keep := fun i h h' st k => by
    obtain ⟨⟨old, st1⟩, st2⟩ := st
    exact ⟨⟨old, k e (by simp) _ st1⟩, st2.at fun o q => k it (by simp) o q⟩
  item := by
    intro X hP hw hK hc i pins s σ H E I hf st hg
    subst hP hw hK
    obtain ⟨⟨old, st1⟩, st2⟩ := st
    obtain ⟨xs, x, hq, hx⟩ := hg
    obtain ⟨its, rv, p, hz⟩ := I.list hq
    obtain ⟨u, hu, ru⟩ := rv.get hx
    refine wpAny_pyNext_enum_item st1 st2 p.isList (x := u) (by simpa using hu) hne fun h1 eo it1 ht hsz kk => ?_
    have nn : H s.heap.objs.size = none := I.hok.fresh (Nat.le_refl _)
    have I1 : Inv X pins σ (upd H s.heap.objs.size (.tup [.int i, x])) { s with heap := h1, toks := s.toks + 1 } :=
      I.turnLaid (ch := [e, it]) hf (fun b o hb q => kk b o (fun z => hb (by simp [z])) (fun z => hb (by simp [z])) q) (Nat.le_refl _)
        ⟨by show 2 ≤ sizeLine; decide, [.int i s.toks, u], .cons ⟨_, rfl⟩ (.cons ru .nil), ⟨_, ht, rfl, _, rfl⟩⟩
    have le : e < s.heap.objs.size := Heap.lt_size st1
    have li : it < s.heap.objs.size := by obtain ⟨o, q, _⟩ := id st2; exact Heap.lt_size q
    refine ⟨_, rfl, wpAny_letOwnedTupleGo_enum eo fun h2 e2 sb => ?_⟩
    obtain ⟨f0, f1, f2, f3, f4, f5⟩ := hf e (by simp)
    have I2 := I1.turned (h' := h2) (t' := s.toks + 1) (it := e) (fun b o hb q => (sb.2 b hb).trans q) (by rw [upd_ne (Nat.ne_of_lt le)]; exact f0) f1 f3 f4 f5
    refine ⟨.ref s.heap.objs.size, _, I2, rfl, ⟨x, s.heap.objs.size, fun ys hy => by rw [I.list_inj hy hq]; exact hx, nn, rfl, rfl⟩, ⟨⟨u, by simpa using e2⟩, it1.at fun o q => (sb.2 it (Ne.symm hne)).trans q⟩, fun b hb => ?_⟩
    rcases List.mem_cons.mp hb with z | z
    · subst z; rw [upd_ne (Nat.ne_of_lt le)]; exact f0
    · have z' : b = it := by simpa using z
      subst z'; rw [upd_ne (Nat.ne_of_lt li)]; exact (hf b (by simp)).1
  done := by
    intro X hP hw hK hc i pins s σ H E I hf st hg
    subst hP hw hK
    obtain ⟨⟨old, st1⟩, st2⟩ := st
    obtain ⟨xs, hq, hx⟩ := hg
    obtain ⟨its, rv, p, hz⟩ := I.list hq
    obtain ⟨f0, f1, f2, f3, f4, f5⟩ := hf it (by simp)
    have hl := rv.length
    exact wpAny_pyNext_enum_end (I.ok.hd hc) st1 st2 p.isList (by simp; omega) fun h' eb => ⟨rfl, I.turned (t' := s.toks) (fun b o hb e => eb b o hb e) f0 f1 f3 f4 f5⟩
  self := fun _ _ _ _ _ st h => by
    obtain ⟨⟨old, st1⟩, st2⟩ := st
    exact wpAny_pyIter_enum st1 h
def iEnum (K : PySem.W.Frag) (ta : TA) : TI := fun σ H R => ta σ H fun vs H1 => ∃ a, vs = [.ref a] ∧ (∃ xs, SqL K H1 a xs) ∧ R (Itn K a) H1
theorem pi_enum {X : Cx} {elts : List Expr} {x1} {tpos : Pos} {a : Expr} {ta : TA} {p pos : Pos} (hg : Gl X "enumerate") (hm : X.mg "enumerate" = none) (ha : PA X [a] ta) (hs : starEach [a] X.env = [(false, eval a X.env)] := by rfl) :
    PI X (.Tuple elts x1 tpos) (.Call (.Name "enumerate" p) [a] [] pos) (iEnum X.K ta) := by
  intro pins s σ H R I h
  refine Call_ (ld_blt I hg hm boot_enumerate (PyProof.Rows.callWith_type1 (thn (ha pos pins s σ H _ I h) fun us s1 ⟨vs, H1, I1, r1, q1⟩ => ?_) hs rfl))
  obtain ⟨l, e, ⟨xs, hq⟩, q⟩ := q1
  subst e
  cases r1 with
  | cons r rr =>
    cases rr
    cases r
    obtain ⟨its, rv, pl, hz⟩ := I1.list hq
    refine call_enumerate_list pl.isList fun h' he hit hsz kk => ?_
    have I2 : Inv X pins σ H1 { s1 with heap := h' } := I1.kept (t' := s1.toks) kk
    refine wpAny_pyIter_enum he ?_
    refine ⟨s1.heap.objs.size + 1, [s1.heap.objs.size + 1, s1.heap.objs.size], _, _, H1, rfl, I2, turn_enum l _ _ (Nat.succ_ne_self _), ⟨⟨_, by simpa using he⟩, hit⟩, fun b hb => ?_, q⟩
    rcases List.mem_cons.mp hb with z | z
    · subst z; exact I1.fpOk (Nat.le_succ _) (I1.hok.fresh (Nat.le_succ _))
    · have z' : b = s1.heap.objs.size := by simpa using z
      subst z'; exact I1.fpOk (Nat.le_refl _) (I1.hok.fresh (Nat.le_refl _))
end L2
set_option Elab.async false
set_option linter.all false
set_option maxRecDepth 100000
set_option maxHeartbeats 4000000
namespace L2
open PySem PySem.Spec PyProof.Rows
def clOf (env : Env) : List (Str × NameKind) → List (Str × Addr) → List (Str × Addr)
  | [], cs => cs
  | (n, k) :: r, cs => clOf env r (if k == .free then (n, (env.cells.lookup n).getD 0) :: cs else cs)
theorem clos_forIn {env : Env} : ∀ (names : List (Str × NameKind)) (cs : List (Str × Addr)), (∀ y ∈ names, y.2 = .free → ∃ c, env.cells.lookup y.1 = some c) →
    (forIn names cs fun (x : Str × NameKind) (r : List (Str × Addr)) => (match x with
      | (name, kind) => if (kind == NameKind.free) = true then (cellOf env name >>= fun a => pure (ForInStep.yield ((name, a) :: r)) : Sem (ForInStep (List (Str × Addr)))) else pure (ForInStep.yield r))) = pure (clOf env names cs)
  | [], cs, _ => rfl
  | (n, k) :: r, cs, h => by
    have ih := fun cs' => clos_forIn r cs' fun y hy => h y (List.mem_cons_of_mem _ hy)
    rw [List.forIn_cons]
    by_cases hk : k = .free
    · subst hk
      obtain ⟨c, hc⟩ := h (n, .free) List.mem_cons_self rfl
      have e : cellOf env n = pure c := by unfold cellOf; rw [hc]
      simp only [beq_self_eq_true, if_true, e, pure_bind]
      rw [ih]
      show _ = pure (clOf env r (if (NameKind.free == NameKind.free) = true then _ else _))
      rw [hc]; rfl
    · have hb : (k == NameKind.free) = false := by simpa using hk
      simp only [hb, Bool.false_eq_true, if_false, pure_bind]
      rw [ih]
      show _ = pure (clOf env r (if (k == NameKind.free) = true then _ else _))
      rw [hb]; rfl
theorem closureFor_clOf {env : Env} {scope : Scope} (h : ∀ y ∈ scope.names, y.2 = .free → ∃ c, env.cells.lookup y.1 = some c) : closureFor scope env = pure (clOf env scope.names []) := by
  unfold closureFor
  have e := clos_forIn (env := env) scope.names [] h
  show ((forIn scope.names [] _ : Sem (List (Str × Addr))) >>= fun cs => pure cs) = _
  rw [bind_pure]
  refine Eq.trans ?_ e
  first
    | rfl
    | (congr 1; funext x r; obtain ⟨n, k⟩ := x; dsimp only; split <;> simp)
theorem mem_clOf {env : Env} {x : Str} {c : Addr} : ∀ (names : List (Str × NameKind)) (cs : List (Str × Addr)), (x, c) ∈ clOf env names cs → (x, c) ∈ cs ∨ ((x, NameKind.free) ∈ names ∧ c = (env.cells.lookup x).getD 0)
  | [], cs, h => .inl h
  | (n, k) :: r, cs, h => by
    have h' : (x, c) ∈ clOf env r (if (k == NameKind.free) = true then (n, (env.cells.lookup n).getD 0) :: cs else cs) := h
    rcases mem_clOf r _ h' with z | ⟨z1, z2⟩
    · by_cases hk : k = .free
      · subst hk
        simp only [beq_self_eq_true, if_true, List.mem_cons] at z
        rcases z with z | z
        · cases z; exact .inr ⟨List.mem_cons_self, rfl⟩
        · exact .inl z
      · have hb : (k == NameKind.free) = false := by simpa using hk
        rw [hb] at z
        exact .inl z
    · exact .inr ⟨List.mem_cons_of_mem _ z1, z2⟩
theorem clOf_mono {env : Env} {p : Str × Addr} : ∀ (names : List (Str × NameKind)) (cs : List (Str × Addr)), p ∈ cs → p ∈ clOf env names cs
  | [], cs, h => h
  | (n, k) :: r, cs, h => by
    show p ∈ clOf env r (if (k == NameKind.free) = true then (n, (env.cells.lookup n).getD 0) :: cs else cs)
    refine clOf_mono r _ ?_
    split
    · exact List.mem_cons_of_mem _ h
    · exact h
theorem clOf_has {env : Env} {x : Str} : ∀ (names : List (Str × NameKind)) (cs : List (Str × Addr)), (x, NameKind.free) ∈ names → (x, (env.cells.lookup x).getD 0) ∈ clOf env names cs
  | [], _, h => by cases h
  | (n, k) :: r, cs, h => by
    show _ ∈ clOf env r (if (k == NameKind.free) = true then (n, (env.cells.lookup n).getD 0) :: cs else cs)
    rcases List.mem_cons.mp h with z | z
    · cases z
      exact clOf_mono r _ (by simp)
    · exact clOf_has r _ z
theorem mem_of_lookup' {α β : Type} [BEq α] [LawfulBEq α] {x : α} {c : β} : ∀ {l : List (α × β)}, l.lookup x = some c → (x, c) ∈ l
  | [], h => by simp at h
  | (n, k) :: r, h => by
    rw [List.lookup_cons] at h
    by_cases e : x = n
    · subst e; simp at h; subst h; exact List.mem_cons_self
    · have : (x == n) = false := by simpa using e
      rw [this] at h
      exact List.mem_cons_of_mem _ (mem_of_lookup' h)
theorem lookup_of_mem' {α β : Type} [BEq α] [LawfulBEq α] {x : α} {c : β} : ∀ {l : List (α × β)}, (x, c) ∈ l → ∃ c', l.lookup x = some c'
  | [], h => by cases h
  | (n, k) :: r, h => by
    rw [List.lookup_cons]
    by_cases e : x = n
    · subst e; simp
    · have q : (x == n) = false := by simpa using e
      rw [q]
      rcases List.mem_cons.mp h with z | z
      · cases z; exact absurd rfl e
      · exact lookup_of_mem' z
theorem lookup_relabel_mem {env : Env} {x : Str} {k' : NameKind} : ∀ {names : List (Str × NameKind)},
    (names.map fun (n, k) => if (k == NameKind.free && env.scope.kind == .function && env.kindOf n == some .cell) then (n, NameKind.cell) else (n, k)).lookup x = some k' →
    (x, k') ∈ names ∨ (k' = .cell ∧ (x, NameKind.free) ∈ names)
  | [], h => by simp at h
  | (n, k) :: r, h => by
    rw [List.map_cons, List.lookup_cons] at h
    dsimp only at h
    by_cases e : x = n
    · subst e
      by_cases hc : (k == NameKind.free && env.scope.kind == .function && env.kindOf x == some .cell) = true
      · rw [if_pos hc] at h
        simp at h
        have hk : k = .free := by
          simp only [Bool.and_eq_true, beq_iff_eq] at hc
          exact hc.1.1
        subst hk
        exact .inr ⟨h.symm, List.mem_cons_self⟩
      · rw [if_neg hc] at h
        simp at h
        subst h
        exact .inl List.mem_cons_self
    · have q : (x == (if (k == NameKind.free && env.scope.kind == .function && env.kindOf n == some .cell) = true then (n, NameKind.cell) else (n, k)).1) = false := by
        split <;> simpa using e
      rw [q] at h
      rcases lookup_relabel_mem h with z | ⟨z1, z2⟩
      · exact .inl (List.mem_cons_of_mem _ z)
      · exact .inr ⟨z1, List.mem_cons_of_mem _ z2⟩
structure CompScope (X : Cx) (scope : Scope) (own frn : List Str) (frj : List Nat) : Prop where
  cell : ∀ y ∈ scope.names, y.2 ≠ .cell
  kind : scope.kind = .function
  names : ∀ y ∈ scope.names, y.2 = .local → scope.names.lookup y.1 = some .local
  free : ∀ y ∈ scope.names, y.2 = .free → X.env.scope.names.lookup y.1 = some .cell ∨ X.env.scope.names.lookup y.1 = some .free
  frl : frj.length = frn.length
  frN : ∀ (i j : Nat), frj[i]? = some j → X.N[j]? = frn[i]?
  frF : ∀ x ∈ frn, (x, NameKind.free) ∈ scope.names ∧ scope.names.lookup x = some .free
def cxComp (X : Cx) (own frn : List Str) (scope : Scope) (C : Addr) (s₃ : Shared) (H₃ : Hp) (fp : List Addr) : Cx :=
  { X with N := own ++ frn, s₀ := s₃, H₀ := H₃, env := compEnvC scope (clOf X.env scope.names []) C X.env, outer := X.stack, stack := X.stack, ex := fp, fn := fun _ => false, pn := [], xe := fun _ _ => False }
def startC (own : List Str) (frj : List Nat) (σ : St) : St := List.replicate own.length none ++ frj.map fun j => (σ[j]?).join
section
variable {X : Cx} {pins : List (Addr × Obj)} {σ : List (Option V)} {H : Hp} {s : Shared} {scope : Scope} {own frn : List Str} {frj : List Nat}
theorem CompScope.cells (sc : CompScope X scope own frn frj) (ok : X.Ok) : ∀ y ∈ scope.names, y.2 = .free → ∃ c, X.env.cells.lookup y.1 = some c := fun y hy hf => by
  rcases sc.free y hy hf with z | z
  · exact ok.has y.1 (.inl z)
  · exact ok.has y.1 (.inr z)
theorem CompScope.look (sc : CompScope X scope own frn frj) (ok : X.Ok) {x : Str} {c : Addr} (h : (clOf X.env scope.names []).lookup x = some c) : X.env.cells.lookup x = some c ∧ (x, NameKind.free) ∈ scope.names := by
  rcases mem_clOf _ _ (mem_of_lookup' h) with z | ⟨z1, z2⟩
  · cases z
  · obtain ⟨c', hc⟩ := sc.cells ok (x, .free) z1 rfl
    have hc' : X.env.cells.lookup x = some c' := hc
    rw [hc'] at z2
    have z3 : c = c' := z2
    subst z3
    exact ⟨hc', z1⟩
theorem CompScope.lookF (sc : CompScope X scope own frn frj) (ok : X.Ok) {x : Str} (h : (x, NameKind.free) ∈ scope.names) : ∃ c, (clOf X.env scope.names []).lookup x = some c ∧ X.env.cells.lookup x = some c := by
  obtain ⟨c, hc⟩ := lookup_of_mem' (clOf_has (env := X.env) scope.names [] h)
  exact ⟨c, hc, (sc.look ok hc).1⟩
theorem Inv.block {fp : List Addr} {h₄ : Heap} {tk : Nat} (I : Inv X pins σ H s) (sc : CompScope X scope own frn frj) (hfp : ∀ b ∈ fp, FpOk X pins H b) (hfl : ∀ b ∈ fp, b < s.heap.objs.size)
    (k : ∀ b o, s.heap.get? b = some o → h₄.get? b = some o) (hn : h₄.Ns s.heap.objs.size fun _ => none) :
    Inv (cxComp X own frn scope s.heap.objs.size s H fp) [] (startC own frj σ) H { s with heap := h₄, toks := tk } := by
  have ok := I.ok
  refine ⟨⟨ok.mod, by show (relabel scope X.env).kind = _; exact sc.kind, ok.glob, ok.blt, Nat.le_refl _, ?_, ?_, fun x c h => (nomatch h), ok.hd, ok.frames, .inl rfl, ?_, fun b o e => I.bs b o e, Nat.le_trans ok.bsz I.sz, ?_, ?_, I.stack, I.stkFree⟩, rfl, I.bare, Un.kept k, ?_, ?_, I.fresh, ?_, fun p hp => (nomatch hp), I.hok.kept k, ?_⟩
  · intro x y c e1 e2
    exact ok.inj x y c (sc.look ok e1).1 (sc.look ok e2).1
  · intro x h
    have mem : (x, NameKind.free) ∈ scope.names := by
      rcases h with h | h
      · rcases lookup_relabel_mem h with z | ⟨_, z⟩
        · exact absurd rfl (sc.cell _ z)
        · exact z
      · rcases lookup_relabel_mem h with z | ⟨z, _⟩
        · exact z
        · cases z
    obtain ⟨c, hc, _⟩ := sc.lookF ok mem
    exact ⟨c, hc⟩
  · intro b hb
    obtain ⟨f0, f1, f2, f3, f4, f5⟩ := hfp b hb
    exact ⟨Nat.ne_of_lt (hfl b hb), fun x c e => f4 x c (sc.look ok e).1⟩
  · intro b o e hb
    rcases (hfp b hb).2.2.2.1 with z | z
    · exact ok.noex b o e z
    · exact absurd (Nat.lt_of_lt_of_le (Heap.lt_size e) (Nat.le_trans ok.bsz z)) (Nat.lt_irrefl _)
  · intro b hb hfs
    obtain ⟨f0, f1, f2, _⟩ := hfp b hb
    rcases List.mem_cons.mp (I.stkSub b hfs) with z | z
    · exact f1 z
    · exact f2 z
  · refine ⟨_, hn, fun i x v e1 e2 e3 => ?_⟩
    have e1' : (own ++ frn)[i]? = some x := e1
    have e2' : (List.replicate own.length none ++ frj.map fun j => (σ[j]?).join)[i]? = some (some v) := e2
    by_cases hi : i < own.length
    · rw [List.getElem?_append_left (by simpa using hi)] at e2'
      rw [List.getElem?_replicate] at e2'
      split at e2' <;> cases e2'
    · rw [List.getElem?_append_right (by simp; omega), List.length_replicate] at e2'
      rw [List.getElem?_append_right (by omega)] at e1'
      rw [List.getElem?_map] at e2'
      cases ej : frj[i - own.length]? with
      | none => rw [ej] at e2'; cases e2'
      | some j =>
        rw [ej] at e2'
        have e2'' : (σ[j]?).join = some v := by simpa using e2'
        have e4 : σ[j]? = some (some v) := by
          cases q : σ[j]? with
          | none => rw [q] at e2''; cases e2''
          | some o => rw [q] at e2''; simpa using e2''
        have e5 := (sc.frN _ j ej).trans e1'
        obtain ⟨hm, hlk⟩ := sc.frF x (List.mem_of_getElem? e1')
        obtain ⟨m, hnL, hl⟩ := I.loc
        have hv : Vis X.env.scope x := by
          rcases sc.free (x, .free) hm rfl with z | z
          · exact .inr (.inl z)
          · exact .inr (.inr z)
        obtain ⟨u, r, lk⟩ := hl j x v e5 e4 hv
        refine ⟨u, r, .inr ?_⟩
        obtain ⟨c, hc, hc'⟩ := sc.lookF ok hm
        have cellOk : h₄.IsCell c (some u) := by
          rcases lk with ⟨z, _⟩ | ⟨_, c', hx, ⟨o, ho, hd⟩⟩
          · exfalso
            have z' : X.env.scope.names.lookup x = some .local := z
            rcases sc.free (x, .free) hm rfl with q | q
            · rw [show X.env.scope.names.lookup x = some .cell from q] at z'; cases z'
            · rw [show X.env.scope.names.lookup x = some .free from q] at z'; cases z'
          · rw [hc'] at hx; cases hx
            exact ⟨o, k _ o ho, hd⟩
        refine ⟨?_, c, hc, cellOk⟩
        have e3' : Vis (relabel scope X.env) x := e3
        rcases e3' with z | z | z
        · exfalso
          rcases lookup_relabel_mem z with q | ⟨q, _⟩
          · have := sc.names _ q rfl
            rw [show scope.names.lookup x = some .local from this] at hlk
            cases hlk
          · cases q
        · exact .inl z
        · exact .inr z
  · intro x c e
    obtain ⟨v, o, ho, hd⟩ := I.cell x c (sc.look ok e).1
    exact ⟨v, o, k _ o ho, hd⟩
  · intro x c e
    exact I.freeC x c (sc.look ok e).1
  · show (List.replicate own.length none ++ frj.map fun j => (σ[j]?).join).length = (own ++ frn).length
    simp [sc.frl]
end
theorem codeAny_compLoop_any {prog : Program} {w : World} {A : Around} {R : Result → Shared → Prop} {s : Shared} {elt target iter : Expr} {ifs : List Expr} {scope : Scope} {pos : Pos} {it acc : Value} {env : Env} (I : Nat → Shared → Prop)
    (turn : ∀ n s, I n s → wpAny (model prog w) A (pyNext it) (fun r s₁ => match r with
      | none => R (.ok .next) s₁
      | some v => wpAny (model prog w) A (letOwnedTupleGo target it v) (fun _ s₁' => wpAny (model prog w) A (assign target env v) (fun _ s₂ =>
          wpAny (model prog w) A (forIn ifs true fun c r => if r = true then do let ok ← isTrue c env (eval c env); pure (ForInStep.yield ok) else pure (ForInStep.yield r)) (fun ok s₃ =>
            if ok = true then wpAny (model prog w) A (eval elt env) (fun x s₄ =>
              wpAny (model prog w) A (call (.builtin "list.append") [acc, x]) (fun _ s₅ => ∃ m, m < n ∧ I m s₅) (fun _ _ => False) s₄) (fun _ _ => False) s₃
            else ∃ m, m < n ∧ I m s₃) (fun _ _ => False) s₂) (fun _ _ => False) s₁') (fun _ _ => False) s₁) (fun _ _ => False) s)
    (n : Nat) (h : I n s) :
    codeAny (model prog w) A (.compLoop (.ListComp elt [⟨target, iter, ifs, 0⟩] scope pos) 0 it acc env) R s := by
  refine codeAny_loop rfl I (fun n s hI => ?_) n h
  show wpAny _ A ((compTurn (.ListComp elt [⟨target, iter, ifs, 0⟩] scope pos) 0 it acc env).onRaise (fun x => do noteFrame x env; theTreesLotGoes x)) _ _ s
  refine wpAny_noted ?_
  rw [compTurn_list]
  refine wpAny_bind (wpAny_standAt (wpAny_bind (wpAny_mono (turn n s hI) (fun r s₁ h₁ => ?_) fun _ _ h' => h'.elim)))
  cases r with
  | none => exact wpAny_pure h₁
  | some v =>
    refine wpAny_bind (wpAny_mono h₁ (fun _ s₁' h₁' => ?_) fun _ _ h' => h'.elim)
    refine wpAny_bind (wpAny_mono h₁' (fun _ s₂ h₂ => wpAny_bind (wpAny_mono h₂ (fun ok s₃ h₃ => ?_) fun _ _ h' => h'.elim)) fun _ _ h' => h'.elim)
    cases ok with
    | false => exact wpAny_pure ⟨rfl, h₃⟩
    | true =>
      exact wpAny_bind (wpAny_bind (wpAny_mono h₃ (fun x s₄ h₄ => wpAny_bind (wpAny_mono h₄ (fun _ s₅ h₅ => wpAny_pure (wpAny_pure ⟨rfl, h₅⟩)) fun _ _ h' => h'.elim)) fun _ _ h' => h'.elim))
def PIfs (X : Cx) (ifs : List Expr) (t : TT) : Prop :=
  ∀ (pins : List (Addr × Obj)) (s : Shared) (σ : St) (H : Hp) (Q : Bool → Hp → Prop), Inv X pins σ H s → t σ H Q →
    wpAny (model X.prog X.w) X.A (forIn ifs true fun c r => if r = true then do let ok ← isTrue c X.env (eval c X.env); pure (ForInStep.yield ok) else pure (ForInStep.yield r)) (TP X pins σ Q) X.xe s
def tTrue : TT := fun _ H Q => Q true H
theorem pifs_nil {X : Cx} : PIfs X [] tTrue := fun _ _ _ H _ I h => wpAny_tests_nil ⟨H, I, h⟩
theorem pifs_one {X : Cx} {c : Expr} {t : TT} (h : PT X c t) : PIfs X [c] t := fun pins s σ H Q I hq => wpAny_tests_one (h pins s σ H Q I hq)
def cLoop (J : It) (g : TG) (tt : TT) (te : TE) (D : Addr) (σ : St) (H : Hp) (R : Hp → Prop) : Prop :=
  ∃ W : Nat → Nat → St → Hp → Prop, (∃ m, W 0 m σ H) ∧ ∀ i m σ H, W i m σ H → (J.stop i H ∧ R H) ∨ (J.go i H ∧ ∃ N : St → Hp → Prop, (∀ σ' H', N σ' H' → ∃ m', m' < m ∧ W (i + 1) m' σ' H') ∧
    ∀ x H', J.yld i H x H' → g x σ H' fun σ2 H2 => tt σ2 H2 fun b H3 => if b = true then te σ2 H3 fun y H4 => ∃ ys, H4 D = some (.lst ys) ∧ ys.length < sizeLine ∧ N σ2 (upd H4 D (.lst (ys ++ [y]))) else N σ2 H3)
section
variable {X : Cx} {scope : Scope} {own frn : List Str} {frj : List Nat} {elt tg iter : Expr} {ifs : List Expr} {pos : Pos} {g : TG} {tt : TT} {te : TE}
theorem comp_block {pins : List (Addr × Obj)} {σ : St} {H : Hp} {s : Shared} {J : It} {fp : List Addr} {it : Addr} {tn : Nat → Heap → Prop} {R : Addr → Hp → Prop} {RR : Value → Addr → Result → Shared → Prop} {E : Value → Shared → Prop}
    (sc : CompScope X scope own frn frj) (hc : X.calm = true)
    (hg : ∀ C s₃ H₃ fp, PG (cxComp X own frn scope C s₃ H₃ fp) tg g) (ht : ∀ C s₃ H₃ fp, PIfs (cxComp X own frn scope C s₃ H₃ fp) ifs tt) (he : ∀ C s₃ H₃ fp, PE (cxComp X own frn scope C s₃ H₃ fp) elt te)
    (I : Inv X pins σ H s) (T : Turn X.prog X.w X.K tg J fp it tn) (st : tn 0 s.heap) (hfp : ∀ b ∈ fp, FpOk X pins H b)
    (h : ∀ D, H D = none → cLoop J g tt te D (startC own frj σ) (upd H D (.lst [])) (R D))
    (hRR : ∀ D C H' s' m, Inv X pins σ H' s' → s.heap.objs.size ≤ C → s'.heap.Ns C m → H' C = none → R D H' → RR (.ref D) C (.ok .next) s') :
    wpAny (model X.prog X.w) X.A (newList []) (fun acc s₃ => wpAny (model X.prog X.w) X.A (newFunctionEnv scope X.env.globals (clOf X.env scope.names []) [] X.env.qual none .none (some X.env)) (fun cenv s₄ =>
      codeAny (model X.prog X.w) X.A (.compStart (.ListComp elt [⟨tg, iter, ifs, 0⟩] scope pos) 0 (.ref it) acc { cenv with scope := relabel scope X.env }) (RR acc cenv.locals) s₄) E s₃) E s := by
  refine wpAny_newObj_type (wpAny_newFunctionEnv sc.cell (by intro y hy; simp at hy) (fun h₁ hns₁ hsb₁ => ?_) sc.kind)
  dsimp only at hns₁ hsb₁ ⊢
  have hD := I.fresh
  have I3 : Inv X pins σ (upd H s.heap.objs.size (.lst [])) { s with heap := s.heap.push { cls := .type "list", dict := none, data := .seq ([] : List Value).toArray } } := I.lnew (its := []) (t' := s.toks) .nil (Nat.zero_le _)
  have hsz : (s.heap.push { cls := .type "list", dict := none, data := .seq ([] : List Value).toArray }).objs.size = s.heap.objs.size + 1 := Heap.size_push ..
  generalize hs3 : ({ s with heap := s.heap.push { cls := .type "list", dict := none, data := .seq ([] : List Value).toArray } } : Shared) = s₃ at I3
  have hh3 : s.heap.push { cls := .type "list", dict := none, data := .seq ([] : List Value).toArray } = s₃.heap := by rw [← hs3]
  rw [hh3] at hns₁ hsb₁ hsz ⊢
  have hfl : ∀ b ∈ fp, b < s.heap.objs.size := fun b hb => by
    obtain ⟨o, e, _⟩ := T.obj 0 _ st b hb
    exact Heap.lt_size e
  have hfp3 : ∀ b ∈ fp, FpOk X pins (upd H s.heap.objs.size (.lst [])) b := fun b hb => by
    obtain ⟨f0, f⟩ := hfp b hb
    exact ⟨by rw [upd_ne (Nat.ne_of_lt (hfl b hb))]; exact f0, f⟩
  have hfl3 : ∀ b ∈ fp, b < s₃.heap.objs.size := fun b hb => by rw [hsz]; exact Nat.lt_succ_of_lt (hfl b hb)
  have k4 : ∀ b o, s₃.heap.get? b = some o → h₁.get? b = some o := fun b o e => (hsb₁.2 b (Nat.ne_of_lt (Heap.lt_size e))).trans (Heap.get?_push_of_some _ e)
  have k3 : ∀ b o, s.heap.get? b = some o → s₃.heap.get? b = some o := fun b o e => by rw [← hh3]; exact Heap.get?_push_of_some _ e
  have hnone : (fun x : Str => List.lookup x ([] : List (Str × Value)).reverse) = fun _ => none := by funext x; rfl
  have hns₁' : h₁.Ns s₃.heap.objs.size fun _ => none := by
    have q := hns₁
    first
      | exact q
      | (rw [hnone] at q; exact q)
  have I4 := I3.block (own := own) (tk := s.toks + ([] : List (Str × Value)).length) sc hfp3 hfl3 k4 hns₁'
  have st4 : tn 0 h₁ := T.keep _ _ _ st fun b hb o e => k4 b o (k3 b o e)
  generalize hX : cxComp X own frn scope s₃.heap.objs.size s₃ (upd H s.heap.objs.size (.lst [])) fp = X' at I4
  have hXp : X'.prog = X.prog := by rw [← hX]; rfl
  have hXw : X'.w = X.w := by rw [← hX]; rfl
  have hXK : X'.K = X.K := by rw [← hX]; rfl
  have hXA : X'.A = X.A := by rw [← hX]; rfl
  have hXc : X'.calm = true := by rw [← hX]; exact hc
  have hXx : X'.xe = fun _ _ => False := by rw [← hX]; rfl
  have hXe : X'.env = compEnvC scope (clOf X.env scope.names []) s₃.heap.objs.size X.env := by rw [← hX]; rfl
  have hg' : PG X' tg g := by rw [← hX]; exact hg _ _ _ _
  have ht' : PIfs X' ifs tt := by rw [← hX]; exact ht _ _ _ _
  have he' : PE X' elt te := by rw [← hX]; exact he _ _ _ _
  have ofX : ∀ {H' : Hp} {s' : Shared} {σ' : St}, Inv X' [] σ' H' s' → Inv X pins σ H' s' ∧ (∃ m, s'.heap.Ns s₃.heap.objs.size m) ∧ H' s₃.heap.objs.size = none := by
    intro H' s' σ' I'
    subst hX
    refine ⟨I3.call' (ch := fp) I'.os I'.base I'.hok I'.bare fun b hb => ?_, let ⟨m, hn, _⟩ := I'.loc; ⟨m, hn⟩, I'.free⟩
    obtain ⟨f0, f1, f2, f3, f4, f5⟩ := hfp3 b hb
    exact ⟨f3, f1, f4, f5⟩
  have stat : ∀ {H' : Hp}, (∀ b ∈ fp, H' b = none) → ∀ b ∈ fp, FpOk X' [] H' b := by
    intro H' hn b hb
    subst hX
    obtain ⟨a1, a2⟩ := I4.ok.exf b hb
    exact ⟨hn b hb, a1, I4.ok.exfs b hb, .inl hb, a2, fun p hp => by cases hp⟩
  obtain ⟨W, ⟨m0, w0⟩, turn⟩ := h s.heap.objs.size hD
  have loop : codeAny (model X.prog X.w) X.A (.compLoop (.ListComp elt [⟨tg, iter, ifs, 0⟩] scope pos) 0 (.ref it) (.ref s.heap.objs.size) X'.env) (RR (.ref s.heap.objs.size) s₃.heap.objs.size)
      { s₃ with heap := h₁, toks := s.toks + ([] : List (Str × Value)).length } := by
    refine codeAny_compLoop_any (fun n s' => ∃ i σ' H', Inv X' [] σ' H' s' ∧ tn i s'.heap ∧ (∀ b ∈ fp, H' b = none) ∧ W i n σ' H') ?_ m0 ⟨0, _, _, I4, st4, fun b hb => (hfp3 b hb).1, w0⟩
    rintro n s5 ⟨i, σ5, H5, I5, st5, fr5, w5⟩
    rw [← hXp, ← hXw, ← hXA]
    have hxe : ∀ {α : Type} {t : Sem α} {Q : α → Shared → Prop} {s : Shared}, wpAny (model X'.prog X'.w) X'.A t Q X'.xe s → wpAny (model X'.prog X'.w) X'.A t Q (fun _ _ => False) s := fun h => by rw [hXx] at h; exact h
    have T' : Turn X'.prog X'.w X'.K tg J fp it tn := by rw [hXp, hXw, hXK]; exact T
    rcases turn i n σ5 H5 w5 with ⟨stop, q⟩ | ⟨go, N, hN, step⟩
    · refine thn (T'.done X' rfl rfl rfl hXc i [] s5 σ5 H5 _ I5 (stat fr5) st5 stop) fun r s6 ⟨hr, I6⟩ => ?_
      subst hr
      obtain ⟨J1, ⟨m, J2⟩, J3⟩ := ofX I6
      exact hRR _ _ H5 s6 m J1 (by rw [hsz]; exact Nat.le_succ _) J2 J3 q
    · refine thn (T'.item X' rfl rfl rfl hXc i [] s5 σ5 H5 _ I5 (stat fr5) st5 go) fun r s6 ⟨u, hr, h6⟩ => ?_
      subst hr
      refine thn h6 fun _ s7 ⟨x, H7, I7, r7, y7, st7, fr7⟩ => ?_
      have I7' := I7.pinned (stat fr7) (T'.obj _ _ st7)
      have again : ∀ {s9 : Shared} {σ9 : St} {H9 : Hp}, Inv X' ([] ++ pinsAt fp s7.heap) σ9 H9 s9 → N σ9 H9 → ∃ m, m < n ∧ ∃ i σ' H', Inv X' [] σ' H' s9 ∧ tn i s9.heap ∧ (∀ b ∈ fp, H' b = none) ∧ W i m σ' H' := fun {s9 σ9 H9} I9 n9 => by
        obtain ⟨m', hm, w9⟩ := hN σ9 H9 n9
        refine ⟨m', hm, i + 1, σ9, H9, I9.unpinned, T'.keep _ _ _ st7 fun b hb o e => (I9.pin (b, o) (List.mem_append_right _ (List.mem_append_right _ (mem_pinsAt hb e)))).1, fun b hb => ?_, w9⟩
        obtain ⟨o, e, d⟩ := T'.obj _ _ st7 b hb
        exact (I9.pin (b, o) (List.mem_append_right _ (List.mem_append_right _ (mem_pinsAt hb e)))).2.1
      refine thn (hxe (hg' _ s7 σ5 H7 x u _ I7' r7 (step x H7 y7))) fun _ s8 ⟨σ8, H8, I8, q8⟩ => ?_
      refine thn (hxe (ht' _ s8 σ8 H8 _ I8 q8)) fun b s9 ⟨H9, I9, q9⟩ => ?_
      cases b with
      | false => exact again I9 (by simpa using q9)
      | true =>
        rw [if_pos rfl] at q9
        refine thn (hxe (he' _ s9 σ8 H9 _ I9 q9)) fun y s10 ⟨v, H10, I10, r10, q10⟩ => ?_
        obtain ⟨ys, e10, z10, n10⟩ := q10
        refine thn (hxe (mt_append _ s10 σ8 H10 (.ref s.heap.objs.size) [v] (.ref s.heap.objs.size) [y] (fun _ H' => H' = upd H10 s.heap.objs.size (.lst (ys ++ [v]))) I10 rfl (.cons r10 .nil) ⟨_, ys, v, rfl, rfl, e10, z10, rfl⟩)) fun u s11 ⟨v', H11, I11, _, e11⟩ => ?_
        subst e11
        exact again I11 n10
  rw [hXe] at loop
  have e4 : ({ s with heap := h₁, toks := s.toks + ([] : List (Str × Value)).length } : Shared) = { s₃ with heap := h₁, toks := s.toks + ([] : List (Str × Value)).length } := by rw [← hs3]
  rw [e4]
  exact codeAny_compStart_list loop (T.self _ 0 _ _ _ st4 loop)
end
end L2
set_option Elab.async false
set_option linter.all false
set_option maxRecDepth 100000
set_option maxHeartbeats 4000000
namespace L2
open PySem PySem.Spec PyProof.Rows
def tComp (own : List Str) (frj : List Nat) (wi : TI) (g : TG) (tt : TT) (te : TE) : TE := fun σ H Q => wi σ H fun J H1 => ∀ D, H1 D = none → cLoop J g tt te D (startC own frj σ) (upd H1 D (.lst [])) fun H' => Q (.ref D) H'
section
variable {X : Cx} {scope : Scope} {own frn : List Str} {frj : List Nat} {elt tg iter : Expr} {ifs : List Expr} {pos : Pos} {wi : TI} {g : TG} {tt : TT} {te : TE}
theorem pe_comp (sc : CompScope X scope own frn frj) (hc : X.calm = true) (hi : PI X tg iter wi)
    (hg : ∀ C s₃ H₃ fp, PG (cxComp X own frn scope C s₃ H₃ fp) tg g) (ht : ∀ C s₃ H₃ fp, PIfs (cxComp X own frn scope C s₃ H₃ fp) ifs tt) (he : ∀ C s₃ H₃ fp, PE (cxComp X own frn scope C s₃ H₃ fp) elt te)
    (hs : ∀ x, foldedSetIterable iter X.env x = pure x := by intro _; rfl) : PE X (.ListComp elt [⟨tg, iter, ifs, 0⟩] scope pos) (tComp own frj wi g tt te) := by
  intro pins s σ H Q I h
  rw [eval_ListComp]
  refine wpAny_comprehension_free (use := none) rfl hs (closureFor_clOf (sc.cells I.ok)) sc.kind sc.names (thn (hi pins s σ H _ I h) fun v s1 h1 => thn h1 fun itv s2 h2 => ?_)
  obtain ⟨it, fp, tn, J, H2, e, I2, T, st2, f2, q⟩ := h2
  subst e
  refine comp_block (RR := fun acc C => compPost (model X.prog X.w) X.A X.xe none (EP X pins σ Q) acc C) (R := fun D H' => Q (.ref D) H') sc hc hg ht he I2 T st2 f2 q ?_
  intro D C H' s' m I' hC hn hf hq
  refine ⟨m, hn, fun h' sb => ?_⟩
  obtain ⟨f0, f1, f2, f3, f4, f5⟩ := I2.fpOk (H' := H') hC hf
  exact ⟨.ref D, H', I'.turned (t' := s'.toks) (it := C) (fun b o hb e => (sb.2 b hb).trans e) f0 f1 f3 f4 f5, rfl, hq⟩
theorem ps_setComp {i : Nat} {y : Str} {py spos : Pos} (sc : CompScope X scope own frn frj) (hc : X.calm = true) (hi : PI X tg iter wi)
    (hg : ∀ C s₃ H₃ fp, PG (cxComp X own frn scope C s₃ H₃ fp) tg g) (ht : ∀ C s₃ H₃ fp, PIfs (cxComp X own frn scope C s₃ H₃ fp) ifs tt) (he : ∀ C s₃ H₃ fp, PE (cxComp X own frn scope C s₃ H₃ fp) elt te)
    (hN : X.N.Nodup) (hi' : X.N[i]? = some y) (hx : X.env.scope.names.lookup y = some .local)
    (hsw : swapsWith (.ListComp elt [⟨tg, iter, ifs, 0⟩] scope pos) (some (.Name y py)) spos.line X.env = pure true := by rfl)
    (hs : ∀ x, foldedSetIterable iter X.env x = pure x := by intro _; rfl) : PS X (.Assign [.Name y py] (.ListComp elt [⟨tg, iter, ifs, 0⟩] scope pos) spos) (tAsg (tComp own frj wi g tt te) (gName i)) := by
  intro pins s σ H D I h
  rw [exec_Assign_Name_used _ _ _ _ hsw]
  refine wpAny_bind (wpAny_standAt (wpAny_bind ?_))
  show wpAny _ X.A (do let _ ← comprehension (.ListComp elt [⟨tg, iter, ifs, 0⟩] scope pos) scope X.env _ (newList []) false (eval iter X.env) (some (assign (.Name y py) X.env))) _ _ s
  refine wpAny_bind (wpAny_mono (wpAny_comprehension_free (use := some (assign (.Name y py) X.env)) (Q := fun _ s' => SP X pins D .next s') rfl hs (closureFor_clOf (sc.cells I.ok)) sc.kind sc.names
    (thn (hi pins s σ H _ I h) fun v s1 h1 => thn h1 fun itv s2 h2 => ?_)) (fun _ s' hq => wpAny_pure (wpAny_pure hq)) fun _ _ e => e)
  obtain ⟨it, fp, tn, J, H2, e, I2, T, st2, f2, q⟩ := h2
  subst e
  refine comp_block (RR := fun acc C => compPost (model X.prog X.w) X.A X.xe (some (assign (.Name y py) X.env)) (fun _ s' => SP X pins D .next s') acc C) (R := fun E H' => D.nx (σ.set i (some (.ref E))) H') sc hc hg ht he I2 T st2 f2 q ?_
  intro E C H' s' m I' hC hn hf hq
  show wpAny _ X.A (assign (.Name y py) X.env (.ref E)) _ _ _
  obtain ⟨f0, f1, f2, f3, f4, f5⟩ := I2.fpOk (H' := H') hC hf
  refine wpAny_assign_Name (store_ok2 I' hN hi' (.inl hx) (v := .ref E) (u := .ref E) rfl (fun s3 I3 ⟨a, sb, ha⟩ => ?_) (.inr hx))
  have hCa : C ≠ a := by
    rcases ha with z | z
    · rw [z]; exact f1
    · exact (f4 y a z).symm
  refine ⟨m, hn.sameBut sb hCa, fun h' sb' => ?_⟩
  exact ⟨_, H', I3.turned (t' := s3.toks) (it := C) (fun b o hb e => (sb'.2 b hb).trans e) f0 f1 f3 f4 f5, hq⟩
end
theorem comp_range {lo : Int} {n : Nat} {g : TG} {tt : TT} {te : TE} {D : Addr} {σ : St} {H : Hp} {R : Hp → Prop} (Pv : Nat → St → Hp → Prop) (h0 : Pv 0 σ H)
    (hs : ∀ i σ H, i < n → Pv i σ H → g (.int (lo + i)) σ H fun σ2 H2 => tt σ2 H2 fun b H3 => if b = true then te σ2 H3 fun y H4 => ∃ ys, H4 D = some (.lst ys) ∧ ys.length < sizeLine ∧ Pv (i + 1) σ2 (upd H4 D (.lst (ys ++ [y]))) else Pv (i + 1) σ2 H3)
    (hd : ∀ σ H, Pv n σ H → R H) : cLoop (Itr lo n) g tt te D σ H R := by
  refine ⟨fun i m σ H => m = n - i ∧ i ≤ n ∧ Pv i σ H, ⟨n, by simp, Nat.zero_le _, h0⟩, ?_⟩
  rintro i m σ H ⟨rfl, hi, p⟩
  by_cases hlt : i < n
  · refine .inr ⟨hlt, Pv (i + 1), fun σ' H' p' => ⟨n - (i + 1), by omega, rfl, hlt, p'⟩, fun x H' y => ?_⟩
    obtain ⟨e, y⟩ := y
    subst e y
    exact hs i σ _ hlt p
  · have e : i = n := by omega
    subst e
    exact .inl ⟨Nat.le_refl _, hd σ H p⟩
theorem comp_list {K : PySem.W.Frag} {a : Addr} {xs : List V} {g : TG} {tt : TT} {te : TE} {D : Addr} {σ : St} {H : Hp} {R : Hp → Prop} (Pv : Nat → St → Hp → Prop) (h0 : Pv 0 σ H) (hl : ∀ i σ H, i ≤ xs.length → Pv i σ H → SqL K H a xs)
    (hs : ∀ i x σ H, xs[i]? = some x → Pv i σ H → g x σ H fun σ2 H2 => tt σ2 H2 fun b H3 => if b = true then te σ2 H3 fun y H4 => ∃ ys, H4 D = some (.lst ys) ∧ ys.length < sizeLine ∧ Pv (i + 1) σ2 (upd H4 D (.lst (ys ++ [y]))) else Pv (i + 1) σ2 H3)
    (hd : ∀ σ H, Pv xs.length σ H → R H) : cLoop (Itl K a) g tt te D σ H R := by
  refine ⟨fun i m σ H => m = xs.length - i ∧ i ≤ xs.length ∧ Pv i σ H, ⟨xs.length, by simp, Nat.zero_le _, h0⟩, ?_⟩
  rintro i m σ H ⟨rfl, hi, p⟩
  have q := hl i σ H hi p
  by_cases hlt : i < xs.length
  · refine .inr ⟨⟨xs, xs[i], q, by simp [hlt]⟩, Pv (i + 1), fun σ' H' p' => ⟨xs.length - (i + 1), by omega, rfl, hlt, p'⟩, fun x H' y => ?_⟩
    obtain ⟨e, y⟩ := y
    subst e
    exact hs i x σ _ (y xs q) p
  · have e : i = xs.length := by omega
    subst e
    exact .inl ⟨⟨xs, q, Nat.le_refl _⟩, hd σ H p⟩
theorem comp_tup {K : PySem.W.Frag} {a : Addr} {xs : List V} {g : TG} {tt : TT} {te : TE} {D : Addr} {σ : St} {H : Hp} {R : Hp → Prop} (Pv : Nat → St → Hp → Prop) (h0 : Pv 0 σ H) (hl : ∀ i σ H, i ≤ xs.length → Pv i σ H → SqT K H a xs)
    (hs : ∀ i x σ H, xs[i]? = some x → Pv i σ H → g x σ H fun σ2 H2 => tt σ2 H2 fun b H3 => if b = true then te σ2 H3 fun y H4 => ∃ ys, H4 D = some (.lst ys) ∧ ys.length < sizeLine ∧ Pv (i + 1) σ2 (upd H4 D (.lst (ys ++ [y]))) else Pv (i + 1) σ2 H3)
    (hd : ∀ σ H, Pv xs.length σ H → R H) : cLoop (Itt K a) g tt te D σ H R := by
  refine ⟨fun i m σ H => m = xs.length - i ∧ i ≤ xs.length ∧ Pv i σ H, ⟨xs.length, by simp, Nat.zero_le _, h0⟩, ?_⟩
  rintro i m σ H ⟨rfl, hi, p⟩
  have q := hl i σ H hi p
  by_cases hlt : i < xs.length
  · refine .inr ⟨⟨xs, xs[i], q, by simp [hlt]⟩, Pv (i + 1), fun σ' H' p' => ⟨xs.length - (i + 1), by omega, rfl, hlt, p'⟩, fun x H' y => ?_⟩
    obtain ⟨e, y⟩ := y
    subst e
    exact hs i x σ _ (y xs q) p
  · have e : i = xs.length := by omega
    subst e
    exact .inl ⟨⟨xs, q, Nat.le_refl _⟩, hd σ H p⟩
end L2
set_option Elab.async false
set_option linter.all false
set_option maxRecDepth 100000
set_option maxHeartbeats 4000000
namespace L2
open PySem PySem.Spec PyProof.Rows
section
variable {X : Cx}
def CDivB (i j : Int) : Prop := 0 < j ∧ j.natAbs.log2 < 9000
theorem op_fdivB : OpR X (binaryOp .FloorDiv) (rI CDivB fun i j => .int (i / j)) := opI fun i j _ _ _ _ _ hc q => by
  obtain ⟨h0, h1⟩ := hc
  refine floordiv_int (by omega) ?_ (.inl (PyProof.noPylong_of_log2 h1))
  rw [Int.fdiv_eq_ediv_of_nonneg _ (by omega)]
  exact q
theorem call_isinst : CallR X (.builtin "isinstance") (fun xs H Q => ∃ (x : V) (t : Value) (T : String) (b : Bool), xs = [x, .ty T] ∧ TyOf X.K H x t ∧ PySem.W.kitOne X.K t (.type T) = some b ∧ Q (.bl b) H) := by
  intro pins s σ H xs us Q I r h
  obtain ⟨x, t, T, b, rfl, ty, e, q⟩ := h
  obtain ⟨u, w', rfl, rx, rT⟩ := vals2 r
  cases (show w' = Value.type T from rT)
  exact isinst_ok I rx ty e fun tk => ⟨.bl b, H, I.tok tk, rfl, q⟩
theorem kit_ll {K : PySem.W.Frag} : PySem.W.kitOne K (.type "list") (.type "list") = some true := by rfl
theorem op_cat0 : OpR X (binaryOp .Add) (fun x y H Q => ∃ (a b : Addr) (ys : List V), x = .ref a ∧ y = .ref b ∧ SqT X.K H a [] ∧ SqT X.K H b ys ∧ Q (.ref b) H) := by
  intro pins s σ H x y v u Q I rx ry h
  obtain ⟨a, b, ys, rfl, rfl, ha, hb, q⟩ := h
  cases rx
  cases ry
  obtain ⟨its, r1, p1, _⟩ := I.tuple ha
  obtain ⟨its2, r2, p2, _⟩ := I.tuple hb
  cases r1
  obtain ⟨⟨cls, dd, data, sl⟩, ho, hc, n, hd⟩ := id p1
  obtain ⟨⟨cls2, dd2, data2, sl2⟩, ho2, hc2, n2, hd2⟩ := id p2
  simp only at hc hd hc2 hd2
  subst hc hd hc2 hd2
  exact concat_meets ⟨_, ho, rfl⟩ ⟨_, ho2, rfl⟩ noFill_tuple_add seq_tuple_add PySem.F.slot_tuple_add PySem.F.entry_tuple_add (PySem.F.args_tuple_add_2 _ _)
    (tuple_addW0 a b #[] its2.toArray n n2 dd dd2 sl sl2 rfl) ⟨ho, ho2, ⟨.ref b, H, I, rfl, q⟩⟩
def rCatN (K : PySem.W.Frag) : R2 := fun x y H Q => ∃ (a b : Addr) (xs ys : List V), x = .ref a ∧ y = .ref b ∧ SqT K H a xs ∧ SqT K H b ys ∧ ys ≠ [] ∧ xs.length + ys.length ≤ sizeLine ∧
  (xs = [] → Q (.ref b) H) ∧ (xs ≠ [] → ∀ p, H p = none → Q (.ref p) (upd H p (.tup (xs ++ ys))))
theorem op_catN : OpR X (binaryOp .Add) (rCatN X.K) := by
  intro pins s σ H x y v u Q I rx ry h
  obtain ⟨a, b, xs, ys, rfl, rfl, ha, hb, hy, hz, q1, q2⟩ := h
  by_cases hx : xs = []
  · subst hx
    exact op_cat0 pins s σ H _ _ v u Q I rx ry ⟨a, b, ys, rfl, rfl, ha, hb, q1 rfl⟩
  · exact op_catT pins s σ H _ _ v u Q I rx ry ⟨a, b, xs, ys, rfl, rfl, ha, hb, hx, hz, fun z => absurd z hy, fun _ => q2 hx⟩
end
end L2
namespace L2
open PySem PySem.Spec PyProof.Rows
def compCheck (scope esc : Scope) (N own frn : List Str) (frj : List Nat) : Bool :=
  scope.names.all (fun y => y.2 != .cell) && scope.kind == .function && scope.names.all (fun y => y.2 != .local || scope.names.lookup y.1 == some .local)
  && scope.names.all (fun y => y.2 != .free || (esc.names.lookup y.1 == some .cell || esc.names.lookup y.1 == some .free))
  && frj.length == frn.length && (List.range frj.length).all (fun i => (frj[i]?).bind (fun j => N[j]?) == frn[i]?)
  && frn.all (fun x => scope.names.contains (x, NameKind.free) && scope.names.lookup x == some .free)
theorem CompScope.mk' {X : Cx} {scope esc : Scope} {N own frn : List Str} {frj : List Nat} (hs : X.env.scope = esc) (hN : X.N = N) (h : compCheck scope esc N own frn frj = true) : CompScope X scope own frn frj := by
  unfold compCheck at h
  simp only [Bool.and_eq_true, List.all_eq_true, bne_iff_ne, beq_iff_eq, Bool.or_eq_true, List.contains_iff_mem] at h
  obtain ⟨⟨⟨⟨⟨⟨h1, h2⟩, h3⟩, h4⟩, h5⟩, h6⟩, h7⟩ := h
  refine ⟨h1, h2, fun y hy hl => ?_, fun y hy hf => ?_, h5, fun i j e => ?_, fun x hx => h7 x hx⟩
  · rcases h3 y hy with z | z
    · exact absurd hl z
    · exact z
  · rw [hs]
    rcases h4 y hy with z | z
    · exact absurd hf z
    · exact z
  · have hi : i < frj.length := (List.getElem?_eq_some_iff.mp e).1
    have q := h6 i (List.mem_range.mpr hi)
    rw [e] at q
    rw [hN]
    exact q
def KB (d : Addr) (H H' : Hp) : Prop := ∀ b o, H b = some o → b ≠ d → H' b = some o
theorem KB.refl (d : Addr) (H : Hp) : KB d H H := fun _ _ h _ => h
theorem KB.trans {d : Addr} {H H1 H2 : Hp} (a : KB d H H1) (b : KB d H1 H2) : KB d H H2 := fun c o h n => b c o (a c o h n) n
theorem KB.write {d : Addr} {H : Hp} {o : HO} : KB d H (upd H d o) := fun b o h n => by rw [upd_ne n]; exact h
theorem Same.kb {d : Addr} {H H' : Hp} (s : Same H H') : KB d H H' := fun b o h _ => s b o h
theorem Same.new {H : Hp} {p : Addr} {o : HO} (h : H p = none) : Same H (upd H p o) := fun b u e => by rw [upd_ne (ne_of_none e h)]; exact e
theorem Same.kbn {d : Addr} {H H1 H2 : Hp} (s : Same H H1) (h : H d = none) (k : KB d H1 H2) : Same H H2 := fun b o e => k b o (s b o e) (ne_of_none e h)
theorem KB.seq {K : PySem.W.Frag} {d : Addr} {H H' : Hp} {a : Addr} {xs : List V} (e : KB d H H') (n : a ≠ d) (h : SqL K H a xs) : SqL K H' a xs := by
  rcases h with (h | ⟨o, h⟩) | h
  · exact .inl (.inl (e _ _ h n))
  · exact .inl (.inr ⟨o, e _ _ h n⟩)
  · exact .inr h
def KTu (H H' : Hp) : Prop := ∀ b xs, H b = some (.tup xs) → H' b = some (.tup xs)
theorem KTu.trans {H H1 H2 : Hp} (a : KTu H H1) (b : KTu H1 H2) : KTu H H2 := fun c o h => b c o (a c o h)
theorem Same.kt {H H' : Hp} (s : Same H H') : KTu H H' := fun b xs h => s b _ h
theorem KTu.lst {H : Hp} {d : Addr} {xs : List V} {o : HO} (h : H d = some (.lst xs)) : KTu H (upd H d o) := fun b ys e => by
  rw [upd_ne (ne_of e h (fun z => nomatch z))]; exact e
theorem KTu.kb {d : Addr} {xs : List V} {H H' : Hp} (h : H d = some (.lst xs)) (k : KB d H H') : KTu H H' := fun b ys e => k b _ e (ne_of e h (fun z => nomatch z))
def Tups (H : Hp) (ps : List Addr) (ls : List (List Int)) : Prop := Paired (fun p (l : List Int) => H p = some (.tup (l.map V.int))) ps ls
theorem Tups.keep {H H' : Hp} {ps : List Addr} {ls : List (List Int)} (t : Tups H ps ls) (k : KTu H H') : Tups H' ps ls := Paired.mapP t fun _ _ h => k _ _ h
theorem Tups.get {H : Hp} : ∀ {ps : List Addr} {ls : List (List Int)} {i : Nat} {p : Addr}, Tups H ps ls → ps[i]? = some p → ∃ l, ls[i]? = some l ∧ H p = some (.tup (l.map V.int))
  | _, _, _, _, .nil, e => by simp at e
  | _, _, 0, _, .cons r _, e => by simp at e; subst e; exact ⟨_, rfl, r⟩
  | _, _, i + 1, p, .cons _ t, e => by
    obtain ⟨u, h1, h2⟩ := Tups.get (i := i) (p := p) t (by simpa using e)
    exact ⟨u, by simpa using h1, h2⟩
theorem paired_append {α β : Type} {F : α → β → Prop} : ∀ {xs ys : List α} {us ws : List β}, Paired F xs us → Paired F ys ws → Paired F (xs ++ ys) (us ++ ws)
  | _, _, _, _, .nil, s => s
  | _, _, _, _, .cons r t, s => .cons r (paired_append t s)
end L2
namespace L2
open PySem
theorem bt_len : bootBuiltins "len" = some (.builtin "len") := by decide +kernel
theorem bt_min : bootBuiltins "min" = some (.builtin "min") := by decide +kernel
theorem bt_isinstance : bootBuiltins "isinstance" = some (.builtin "isinstance") := by decide +kernel
theorem bt_sorted : bootBuiltins "sorted" = some (.builtin "sorted") := by decide +kernel
theorem bt_list : bootBuiltins "list" = some (.type "list") := by decide +kernel
theorem bt_tuple : bootBuiltins "tuple" = some (.type "tuple") := by decide +kernel
theorem bt_bool : bootBuiltins "bool" = some (.type "bool") := by decide +kernel
theorem bt_dict : bootBuiltins "dict" = some (.type "dict") := by decide +kernel
end L2
namespace L2
open PySem PySem.Spec PyProof.Rows
def rLen (K : PySem.W.Frag) : List V → Hp → VK → Prop := fun xs H Q => ∃ x n, xs = [x] ∧ LenV K x H n ∧ Q (.int n) H
def rIsi (K : PySem.W.Frag) : List V → Hp → VK → Prop := fun xs H Q => ∃ (x : V) (t : Value) (T : String) (b : Bool), xs = [x, .ty T] ∧ TyOf K H x t ∧ PySem.W.kitOne K t (.type T) = some b ∧ Q (.bl b) H
section
variable {X : Cx}
theorem call_lenK (K : PySem.W.Frag) (hK : X.K = K := by rfl) : CallR X (.builtin "len") (rLen K) := by subst hK; exact call_len
theorem call_isiK (K : PySem.W.Frag) (hK : X.K = K := by rfl) : CallR X (.builtin "isinstance") (rIsi K) := by subst hK; exact call_isinst
theorem ix_listK (K : PySem.W.Frag) (hK : X.K = K := by rfl) : IxR X (rIxL K) := by subst hK; exact ix_list
theorem ix_tupK (K : PySem.W.Frag) (hK : X.K = K := by rfl) : IxR X (rIxT K) := by subst hK; exact ix_tup
theorem sl_listK (K : PySem.W.Frag) (hK : X.K = K := by rfl) : SlR X (rSlL K) := by subst hK; exact sl_list
theorem op_catNK (K : PySem.W.Frag) (hK : X.K = K := by rfl) : OpR X (binaryOp .Add) (rCatN K) := by subst hK; exact op_catN
def CPos (_ j : Int) : Prop := 0 < j
theorem cpos {i j : Int} (h : 0 < j) : CPos i j := h
theorem op_modP : OpR X (binaryOp .Mod) (rI CPos fun i j => .int (i % j)) := op_mod
end
end L2
namespace L2
theorem seq_rest {t u : TS} {D : Ends} {σ : St} {H : Hp} (Pv : St → Hp → Prop) (h1 : ∀ σ H, Pv σ H → u D σ H) (h2 : (∀ σ H, Pv σ H → u D σ H) → t { D with nx := u D } σ H) : tSeq t u D σ H := h2 h1
end L2
set_option Elab.async false
set_option linter.all false
set_option maxRecDepth 100000
set_option maxHeartbeats 4000000
namespace L2
open PySem PySem.Spec PyProof.Rows
inductive Dt where
  | non | bl (b : Bool) | int (i : Int) | str (x : Str) | tup (xs : List Dt) | lst (xs : List Dt)
mutual
def Dt.beq : Dt → Dt → Bool
  | .non, .non => true
  | .bl a, .bl b => a == b
  | .bl a, .int b => (if a then 1 else 0) == b
  | .int a, .bl b => a == (if b then 1 else 0)
  | .int a, .int b => a == b
  | .str a, .str b => a == b
  | .tup xs, .tup ys => Dt.beqs xs ys
  | .lst xs, .lst ys => Dt.beqs xs ys
  | _, _ => false
def Dt.beqs : List Dt → List Dt → Bool
  | [], [] => true
  | x :: xs, y :: ys => x.beq y && Dt.beqs xs ys
  | _, _ => false
end
mutual
def Dt.dep : Dt → Nat
  | .tup xs => Dt.deps xs + 1
  | .lst xs => Dt.deps xs + 1
  | _ => 0
def Dt.deps : List Dt → Nat
  | [] => 0
  | x :: xs => max x.dep (Dt.deps xs)
end
mutual
def DatAt (K : PySem.W.Frag) (H : Hp) : V → Dt → Prop
  | x, .non => x = .non
  | x, .bl b => x = .bl b
  | x, .int i => x = .int i
  | x, .str z => x = .str z
  | x, .tup ds => ∃ a xs, x = .ref a ∧ SqT K H a xs ∧ DatsAt K H xs ds
  | x, .lst ds => ∃ a xs, x = .ref a ∧ SqL K H a xs ∧ DatsAt K H xs ds
def DatsAt (K : PySem.W.Frag) (H : Hp) : List V → List Dt → Prop
  | [], [] => True
  | x :: xs, d :: ds => DatAt K H x d ∧ DatsAt K H xs ds
  | _, _ => False
end
theorem Dt.beq_refl (d : Dt) : d.beq d = true := by
  induction d using Dt.rec (motive_2 := fun xs => Dt.beqs xs xs = true) with
  | non => simp [Dt.beq]
  | bl b => simp [Dt.beq]
  | int b => simp [Dt.beq]
  | str b => simp [Dt.beq]
  | tup xs ih => simp [Dt.beq, ih]
  | lst xs ih => simp [Dt.beq, ih]
  | nil => simp [Dt.beqs]
  | cons x xs h1 h2 => simp [Dt.beqs, h1, h2]
theorem DatsAt.length {K : PySem.W.Frag} {H : Hp} : ∀ {xs : List V} {ds : List Dt}, DatsAt K H xs ds → xs.length = ds.length
  | [], [], _ => rfl
  | [], _ :: _, h => by simp [DatsAt] at h
  | _ :: _, [], h => by simp [DatsAt] at h
  | x :: xs, d :: ds, h => by
    rw [DatsAt] at h
    rw [List.length_cons, List.length_cons, DatsAt.length h.2]
theorem DatsAt.get {K : PySem.W.Frag} {H : Hp} : ∀ {xs : List V} {ds : List Dt} {i : Nat} {x : V}, DatsAt K H xs ds → xs[i]? = some x → ∃ d, ds[i]? = some d ∧ DatAt K H x d
  | [], _, _, _, _, e => by simp at e
  | _ :: _, [], _, _, h, _ => by simp [DatsAt] at h
  | x :: xs, d :: ds, 0, y, h, e => by
    rw [DatsAt] at h
    simp at e; subst e
    exact ⟨d, rfl, h.1⟩
  | x :: xs, d :: ds, i + 1, y, h, e => by
    rw [DatsAt] at h
    obtain ⟨d', h1, h2⟩ := DatsAt.get (i := i) (x := y) h.2 (by simpa using e)
    exact ⟨d', by simpa using h1, h2⟩
theorem Dt.deps_mem {d : Dt} : ∀ {ds : List Dt}, d ∈ ds → d.dep ≤ Dt.deps ds
  | [], h => by cases h
  | x :: xs, h => by
    rw [Dt.deps]
    rcases List.mem_cons.mp h with rfl | h
    · exact Nat.le_max_left ..
    · exact Nat.le_trans (Dt.deps_mem h) (Nat.le_max_right ..)
def beqAt (xs ys : List Dt) (j : Nat) : Bool := match xs[j]?, ys[j]? with
  | some x, some y => x.beq y
  | _, _ => false
theorem all_range_succ (n : Nat) (e : Nat → Bool) : (List.range (n + 1)).all e = (e 0 && (List.range n).all fun j => e (j + 1)) := by
  rw [List.range_succ_eq_map, List.all_cons, List.all_map]; rfl
theorem beqs_all : ∀ (xs ys : List Dt), xs.length = ys.length → (List.range xs.length).all (beqAt xs ys) = Dt.beqs xs ys
  | [], [], _ => by simp [Dt.beqs]
  | x :: xs, y :: ys, h => by
    have h' : xs.length = ys.length := by simpa using h
    rw [List.length_cons, all_range_succ, Dt.beqs, ← beqs_all xs ys h']
    rfl
theorem beqs_len : ∀ (xs ys : List Dt), xs.length ≠ ys.length → Dt.beqs xs ys = false
  | [], [], h => absurd rfl h
  | [], _ :: _, _ => by simp [Dt.beqs]
  | _ :: _, [], _ => by simp [Dt.beqs]
  | x :: xs, y :: ys, h => by
    have h' : xs.length ≠ ys.length := fun z => h (by simp [z])
    rw [Dt.beqs, beqs_len xs ys h', Bool.and_false]
section
variable {X : Cx} {pins : List (Addr × Obj)} {σ : St} {H : Hp} {s : Shared}
theorem list_not_tuple {a : Addr} {xs ys : List V} (I : Inv X pins σ H s) (h1 : SqL X.K H a xs) (h2 : SqT X.K H a ys) : False := by
  obtain ⟨its, _, p, _⟩ := I.list h1
  obtain ⟨its2, _, q, _⟩ := I.tuple h2
  exact SeqAt.ne_of_list_tuple p.isList (show s.heap.IsTuple a its2.toArray from q) rfl
theorem dat_inj (I : Inv X pins σ H s) (d : Dt) : ∀ (x : V) (d' : Dt), DatAt X.K H x d → DatAt X.K H x d' → d = d' := by
  induction d using Dt.rec (motive_2 := fun ds => ∀ (xs : List V) (ds' : List Dt), DatsAt X.K H xs ds → DatsAt X.K H xs ds' → ds = ds') with
  | non => intro x d' h h'; cases d' <;> simp_all [DatAt]
  | bl b => intro x d' h h'; cases d' <;> simp_all [DatAt]
  | int b => intro x d' h h'; cases d' <;> simp_all [DatAt]
  | str b => intro x d' h h'; cases d' <;> simp_all [DatAt]
  | tup ds ih =>
    intro x d' h h'
    rw [DatAt] at h
    obtain ⟨a, xs, rfl, hq, hd⟩ := h
    cases d' with
    | tup ds' =>
      rw [DatAt] at h'
      obtain ⟨a', xs', e, hq', hd'⟩ := h'
      cases e
      rw [I.tuple_inj hq' hq] at hd'
      rw [ih xs ds' hd hd']
    | lst ds' =>
      rw [DatAt] at h'
      obtain ⟨a', xs', e, hq', hd'⟩ := h'
      cases e
      exact (list_not_tuple I hq' hq).elim
    | _ => simp [DatAt] at h'
  | lst ds ih =>
    intro x d' h h'
    rw [DatAt] at h
    obtain ⟨a, xs, rfl, hq, hd⟩ := h
    cases d' with
    | lst ds' =>
      rw [DatAt] at h'
      obtain ⟨a', xs', e, hq', hd'⟩ := h'
      cases e
      rw [I.list_inj hq' hq] at hd'
      rw [ih xs ds' hd hd']
    | tup ds' =>
      rw [DatAt] at h'
      obtain ⟨a', xs', e, hq', hd'⟩ := h'
      cases e
      exact (list_not_tuple I hq hq').elim
    | _ => simp [DatAt] at h'
  | nil =>
    rename_i xs ds' h h'
    cases xs with
    | nil => cases ds' with
      | nil => rfl
      | cons _ _ => simp [DatsAt] at h'
    | cons _ _ => simp [DatsAt] at h
  | cons d ds h1 h2 =>
    rename_i xs ds' h h'
    cases xs with
    | nil => simp [DatsAt] at h
    | cons x xs => cases ds' with
      | nil => simp [DatsAt] at h'
      | cons d' ds' =>
        rw [DatsAt] at h h'
        rw [h1 x d' h.1 h'.1, h2 xs ds' h.2 h'.2]
theorem items_eq {A : Around} {xs ys : List V} {ds ds' : List Dt} {its its2 : List Value} (r1 : Vals xs its) (r2 : Vals ys its2) (h1 : DatsAt X.K H xs ds) (h2 : DatsAt X.K H ys ds')
    (ih : ∀ d ∈ ds, ∀ (d' : Dt) (x y : V) (u v : Value), DatAt X.K H x d → DatAt X.K H y d' → RelV x u → RelV y v → SeqAt.EqAt A s u v (d.beq d')) :
    ∀ j (a : j < its.toArray.size) (b : j < its2.toArray.size), SeqAt.EqAt A s its.toArray[j] its2.toArray[j] (beqAt ds ds' j) := fun j a b => by
  have a' : j < its.length := by simpa using a
  have b' : j < its2.length := by simpa using b
  have la := r1.length
  have lb := r2.length
  have ex : xs[j]? = some (xs[j]'(by omega)) := List.getElem?_eq_getElem (by omega)
  have ey : ys[j]? = some (ys[j]'(by omega)) := List.getElem?_eq_getElem (by omega)
  obtain ⟨u, eu, ru⟩ := r1.get ex
  obtain ⟨v, ev, rv⟩ := r2.get ey
  obtain ⟨d, ed, hd⟩ := h1.get ex
  obtain ⟨d', ed', hd'⟩ := h2.get ey
  have e1 : its.toArray[j] = u := by
    rw [List.getElem?_eq_getElem a'] at eu
    simpa using Option.some.inj eu
  have e2 : its2.toArray[j] = v := by
    rw [List.getElem?_eq_getElem b'] at ev
    simpa using Option.some.inj ev
  rw [e1, e2]
  have e3 : beqAt ds ds' j = d.beq d' := by unfold beqAt; rw [ed, ed']
  rw [e3]
  exact ih d (List.mem_of_getElem? ed) d' _ _ u v hd hd' ru rv
theorem rc_lists {A : Around} {a b : Addr} {xs ys : List V} {ds ds' : List Dt} (I : Inv X pins σ H s) (q1 : SqL X.K H a xs) (q2 : SqL X.K H b ys) (h1 : DatsAt X.K H xs ds) (h2 : DatsAt X.K H ys ds') (hu : A.units < cLine)
    (ih : ∀ d ∈ ds, ∀ (d' : Dt) (x y : V) (u v : Value), DatAt X.K H x d → DatAt X.K H y d' → RelV x u → RelV y v → SeqAt.EqAt A.in1 s u v (d.beq d')) : SeqAt.RcAt A s (.ref a) (.ref b) (Dt.beqs ds ds') := by
  obtain ⟨its, r1, p1, _⟩ := I.list q1
  obtain ⟨its2, r2, p2, _⟩ := I.list q2
  have l1 := r1.length
  have l2 := r2.length
  have l3 := h1.length
  have l4 := h2.length
  by_cases hl : ds.length = ds'.length
  · have := SeqAt.RcAt.lists p1.isList p2.isList (by simp; omega) hu (items_eq r1 r2 h1 h2 ih)
    rw [show its.toArray.size = ds.length by simp; omega, beqs_all ds ds' hl] at this
    exact this
  · rw [beqs_len ds ds' hl]
    exact SeqAt.RcAt.lists_lengths p1.isList p2.isList (by simp; omega) hu
theorem rc_tuples {A : Around} {a b : Addr} {xs ys : List V} {ds ds' : List Dt} (I : Inv X pins σ H s) (q1 : SqT X.K H a xs) (q2 : SqT X.K H b ys) (h1 : DatsAt X.K H xs ds) (h2 : DatsAt X.K H ys ds') (hu : A.units < cLine)
    (ih : ∀ d ∈ ds, ∀ (d' : Dt) (x y : V) (u v : Value), DatAt X.K H x d → DatAt X.K H y d' → RelV x u → RelV y v → SeqAt.EqAt A.in1 s u v (d.beq d')) : SeqAt.RcAt A s (.ref a) (.ref b) (Dt.beqs ds ds') := by
  obtain ⟨its, r1, p1, _⟩ := I.tuple q1
  obtain ⟨its2, r2, p2, _⟩ := I.tuple q2
  have l1 := r1.length
  have l2 := r2.length
  have l3 := h1.length
  have l4 := h2.length
  have := SeqAt.RcAt.tuples (show s.heap.IsTuple a its.toArray from p1) (show s.heap.IsTuple b its2.toArray from p2) hu (items_eq r1 r2 h1 h2 ih)
  by_cases hl : ds.length = ds'.length
  · rw [show min its.toArray.size its2.toArray.size = ds.length by simp; omega, beqs_all ds ds' hl, show (its.toArray.size == its2.toArray.size) = true by simp; omega, Bool.and_true] at this
    exact this
  · rw [show (its.toArray.size == its2.toArray.size) = false by simp; omega, Bool.and_false] at this
    rw [beqs_len ds ds' hl]
    exact this
theorem dat_eqAt (I : Inv X pins σ H s) (d : Dt) : ∀ (A : Around) (d' : Dt) (x y : V) (u v : Value), A.units + d.dep < cLine → DatAt X.K H x d → DatAt X.K H y d' → RelV x u → RelV y v → SeqAt.EqAt A s u v (d.beq d') := by
  have flat : ∀ {A : Around} {d d' : Dt} {x y : V} {u v : Value}, flatV x = true → flatV y = true → eqV x y = d.beq d' → RelV x u → RelV y v → SeqAt.EqAt A s u v (d.beq d') := fun fx fy e ru rv => e ▸ eqAt_V ru rv fx fy
  have lOf : ∀ {a : Addr} {xs : List V}, SqL X.K H a xs → ∃ its : Array Value, s.heap.IsList a its := fun q => let ⟨its, _, p, _⟩ := I.list q; ⟨_, p.isList⟩
  have tOf : ∀ {a : Addr} {xs : List V}, SqT X.K H a xs → ∃ its : Array Value, s.heap.IsTuple a its := fun q => let ⟨its, _, p, _⟩ := I.tuple q; ⟨_, p⟩
  have refs : ∀ {A : Around} {a b : Addr} {d d' : Dt}, DatAt X.K H (.ref a) d → DatAt X.K H (.ref b) d' → SeqAt.RcAt A s (.ref a) (.ref b) (d.beq d') → SeqAt.EqAt A s (.ref a) (.ref b) (d.beq d') := by
    intro A a b d d' h h' r
    by_cases e : a = b
    · subst e
      rw [← dat_inj I d _ _ h h', Dt.beq_refl]
      exact SeqAt.EqAt.same _
    · exact SeqAt.EqAt.of_refs e r
  induction d using Dt.rec (motive_2 := fun ds => ∀ d ∈ ds, ∀ (A : Around) (d' : Dt) (x y : V) (u v : Value), A.units + d.dep < cLine → DatAt X.K H x d → DatAt X.K H y d' → RelV x u → RelV y v → SeqAt.EqAt A s u v (d.beq d')) with
  | non =>
    intro A d' x y u v hu h h' ru rv
    rw [DatAt] at h
    subst h
    have hu' : A.units < cLine := by omega
    cases d' with
    | tup ds' =>
      rw [DatAt] at h'; obtain ⟨b, ys, rfl, q, _⟩ := h'
      cases ru; cases rv
      obtain ⟨its, p⟩ := tOf q
      exact SeqAt.EqAt.none_tuple p hu'
    | lst ds' =>
      rw [DatAt] at h'; obtain ⟨b, ys, rfl, q, _⟩ := h'
      cases ru; cases rv
      obtain ⟨its, p⟩ := lOf q
      exact SeqAt.EqAt.none_list p hu'
    | _ => rw [DatAt] at h'; subst h'; exact flat rfl rfl (by simp [Dt.beq, eqV]) ru rv
  | bl b0 =>
    intro A d' x y u v hu h h' ru rv
    rw [DatAt] at h
    subst h
    have hu' : A.units < cLine := by omega
    cases d' with
    | tup ds' =>
      rw [DatAt] at h'; obtain ⟨b, ys, rfl, q, _⟩ := h'
      cases ru; cases rv
      obtain ⟨its, p⟩ := tOf q
      exact SeqAt.EqAt.bool_tuple _ p hu'
    | lst ds' =>
      rw [DatAt] at h'; obtain ⟨b, ys, rfl, q, _⟩ := h'
      cases ru; cases rv
      obtain ⟨its, p⟩ := lOf q
      exact SeqAt.EqAt.bool_list _ p hu'
    | _ => rw [DatAt] at h'; subst h'; exact flat rfl rfl (by simp [Dt.beq, eqV]) ru rv
  | int i0 =>
    intro A d' x y u v hu h h' ru rv
    rw [DatAt] at h
    subst h
    have hu' : A.units < cLine := by omega
    cases d' with
    | tup ds' =>
      rw [DatAt] at h'; obtain ⟨b, ys, rfl, q, _⟩ := h'
      obtain ⟨t, rfl⟩ := ru; cases rv
      obtain ⟨its, p⟩ := tOf q
      exact SeqAt.EqAt.int_tuple _ _ p hu'
    | lst ds' =>
      rw [DatAt] at h'; obtain ⟨b, ys, rfl, q, _⟩ := h'
      obtain ⟨t, rfl⟩ := ru; cases rv
      obtain ⟨its, p⟩ := lOf q
      exact SeqAt.EqAt.int_list _ _ p hu'
    | _ => rw [DatAt] at h'; subst h'; exact flat rfl rfl (by simp [Dt.beq, eqV]) ru rv
  | str z0 =>
    intro A d' x y u v hu h h' ru rv
    rw [DatAt] at h
    subst h
    have hu' : A.units < cLine := by omega
    cases d' with
    | tup ds' =>
      rw [DatAt] at h'; obtain ⟨b, ys, rfl, q, _⟩ := h'
      obtain ⟨t, rfl⟩ := ru; cases rv
      obtain ⟨its, p⟩ := tOf q
      exact SeqAt.EqAt.str_tuple _ _ p hu'
    | lst ds' =>
      rw [DatAt] at h'; obtain ⟨b, ys, rfl, q, _⟩ := h'
      obtain ⟨t, rfl⟩ := ru; cases rv
      obtain ⟨its, p⟩ := lOf q
      exact SeqAt.EqAt.str_list _ _ p hu'
    | _ => rw [DatAt] at h'; subst h'; exact flat rfl rfl (by simp [Dt.beq, eqV]) ru rv
  | tup ds ih =>
    intro A d' x y u v hu h h' ru rv
    have hD := h
    have hD' := h'
    rw [DatAt] at h
    obtain ⟨a, xs, rfl, q, hd⟩ := h
    cases ru
    obtain ⟨its, p⟩ := tOf q
    have hu' : A.units < cLine := by omega
    cases d' with
    | non => rw [DatAt] at h'; subst h'; cases rv; exact SeqAt.EqAt.tuple_none p hu'
    | bl b => rw [DatAt] at h'; subst h'; cases rv; exact SeqAt.EqAt.tuple_bool _ p hu'
    | int b => rw [DatAt] at h'; subst h'; obtain ⟨t, rfl⟩ := rv; exact SeqAt.EqAt.tuple_int _ _ p hu'
    | str b => rw [DatAt] at h'; subst h'; obtain ⟨t, rfl⟩ := rv; exact SeqAt.EqAt.tuple_str _ _ p hu'
    | lst ds' =>
      rw [DatAt] at h'; obtain ⟨b, ys, rfl, q', _⟩ := h'
      cases rv
      obtain ⟨its2, p2⟩ := lOf q'
      exact SeqAt.EqAt.tuple_list p p2 hu'
    | tup ds' =>
      rw [DatAt] at h'; obtain ⟨b, ys, rfl, q', hd'⟩ := h'
      cases rv
      refine refs hD hD' ?_
      have := rc_tuples (A := A) I q q' hd hd' hu' fun d hm d' x y u v h1 h2 r1 r2 => ih d hm A.in1 d' x y u v (by
        have := Dt.deps_mem hm
        rw [Dt.dep] at hu
        show A.units + 1 + d.dep < cLine
        omega) h1 h2 r1 r2
      simpa [Dt.beq] using this
  | lst ds ih =>
    intro A d' x y u v hu h h' ru rv
    have hD := h
    have hD' := h'
    rw [DatAt] at h
    obtain ⟨a, xs, rfl, q, hd⟩ := h
    cases ru
    obtain ⟨its, p⟩ := lOf q
    have hu' : A.units < cLine := by omega
    cases d' with
    | non => rw [DatAt] at h'; subst h'; cases rv; exact SeqAt.EqAt.list_none p hu'
    | bl b => rw [DatAt] at h'; subst h'; cases rv; exact SeqAt.EqAt.list_bool _ p hu'
    | int b => rw [DatAt] at h'; subst h'; obtain ⟨t, rfl⟩ := rv; exact SeqAt.EqAt.list_int _ _ p hu'
    | str b => rw [DatAt] at h'; subst h'; obtain ⟨t, rfl⟩ := rv; exact SeqAt.EqAt.list_str _ _ p hu'
    | tup ds' =>
      rw [DatAt] at h'; obtain ⟨b, ys, rfl, q', _⟩ := h'
      cases rv
      obtain ⟨its2, p2⟩ := tOf q'
      exact SeqAt.EqAt.list_tuple p p2 hu'
    | lst ds' =>
      rw [DatAt] at h'; obtain ⟨b, ys, rfl, q', hd'⟩ := h'
      cases rv
      refine refs hD hD' ?_
      have := rc_lists (A := A) I q q' hd hd' hu' fun d hm d' x y u v h1 h2 r1 r2 => ih d hm A.in1 d' x y u v (by
        have := Dt.deps_mem hm
        rw [Dt.dep] at hu
        show A.units + 1 + d.dep < cLine
        omega) h1 h2 r1 r2
      simpa [Dt.beq] using this
  | nil =>
    rename_i d hd A d' x y u v a1 a2 a3 a4 a5
    cases hd
  | cons d ds h1 h2 =>
    rename_i d0 hd A d' x y u v a1 a2 a3 a4 a5
    rcases List.mem_cons.mp hd with e | hd
    · subst e; exact h1 A d' x y u v a1 a2 a3 a4 a5
    · exact h2 d0 hd A d' x y u v a1 a2 a3 a4 a5
def Dt.isSq : Dt → Bool
  | .tup _ => true
  | .lst _ => true
  | _ => false
def rEqD (K : PySem.W.Frag) (neg : Bool) : R2 := fun x y H Q => ∃ d d' : Dt, DatAt K H x d ∧ DatAt K H y d' ∧ d.isSq = true ∧ d'.isSq = true ∧ d.dep ≤ 40 ∧ Q (.bl (if neg then !d.beq d' else d.beq d')) H
theorem op_eqD (K : PySem.W.Frag) (hu : X.A.units + 64 < cLine) (hK : X.K = K := by rfl) : OpR X (compareOp .Eq) (rEqD K false) := by
  subst hK
  intro pins s σ H x y v u Q I rx ry h
  obtain ⟨d, d', h, h', sq, sq', hd, q⟩ := h
  have hA : ∀ e : Dt, e.dep ≤ 40 → X.A.in1.units + e.dep < cLine := fun e he => by show X.A.units + 1 + e.dep < cLine; omega
  have hu' : X.A.units < cLine := by omega
  cases d with
  | tup ds =>
    rw [DatAt] at h
    obtain ⟨a, xs, rfl, q1, hd1⟩ := h
    cases rx
    have ih : ∀ d ∈ ds, ∀ (d' : Dt) (x y : V) (u v : Value), DatAt X.K H x d → DatAt X.K H y d' → RelV x u → RelV y v → SeqAt.EqAt X.A.in1 s u v (d.beq d') := fun d hm d' x y u v h1 h2 r1 r2 =>
      dat_eqAt I d X.A.in1 d' x y u v (hA d (by have := Dt.deps_mem hm; rw [Dt.dep] at hd; omega)) h1 h2 r1 r2
    cases d' with
    | tup ds' =>
      rw [DatAt] at h'
      obtain ⟨b, ys, rfl, q2, hd2⟩ := h'
      cases ry
      exact rc_tuples I q1 q2 hd1 hd2 hu' ih _ _ _ _ ⟨.bl _, H, I, rfl, by simpa [Dt.beq] using q⟩
    | lst ds' =>
      rw [DatAt] at h'
      obtain ⟨b, ys, rfl, q2, hd2⟩ := h'
      cases ry
      obtain ⟨its, _, p, _⟩ := I.tuple q1
      obtain ⟨its2, _, p2, _⟩ := I.list q2
      exact SeqAt.RcAt.tuple_list (show s.heap.IsTuple a its.toArray from p) p2.isList hu' _ _ _ _ ⟨.bl _, H, I, rfl, by simpa [Dt.beq] using q⟩
    | _ => cases sq'
  | lst ds =>
    rw [DatAt] at h
    obtain ⟨a, xs, rfl, q1, hd1⟩ := h
    cases rx
    have ih : ∀ d ∈ ds, ∀ (d' : Dt) (x y : V) (u v : Value), DatAt X.K H x d → DatAt X.K H y d' → RelV x u → RelV y v → SeqAt.EqAt X.A.in1 s u v (d.beq d') := fun d hm d' x y u v h1 h2 r1 r2 =>
      dat_eqAt I d X.A.in1 d' x y u v (hA d (by have := Dt.deps_mem hm; rw [Dt.dep] at hd; omega)) h1 h2 r1 r2
    cases d' with
    | lst ds' =>
      rw [DatAt] at h'
      obtain ⟨b, ys, rfl, q2, hd2⟩ := h'
      cases ry
      exact rc_lists I q1 q2 hd1 hd2 hu' ih _ _ _ _ ⟨.bl _, H, I, rfl, by simpa [Dt.beq] using q⟩
    | tup ds' =>
      rw [DatAt] at h'
      obtain ⟨b, ys, rfl, q2, hd2⟩ := h'
      cases ry
      obtain ⟨its, _, p, _⟩ := I.list q1
      obtain ⟨its2, _, p2, _⟩ := I.tuple q2
      exact SeqAt.RcAt.list_tuple p.isList (show s.heap.IsTuple b its2.toArray from p2) hu' _ _ _ _ ⟨.bl _, H, I, rfl, by simpa [Dt.beq] using q⟩
    | _ => cases sq'
  | _ => cases sq
theorem op_neD (K : PySem.W.Frag) (hu : X.A.units + 64 < cLine) (hK : X.K = K := by rfl) : OpR X (compareOp .NotEq) (fun x y H Q => rEqD K true x y H Q ∧ ∃ d d' : Dt, DatAt K H x d ∧ DatAt K H y d' ∧ ((∃ ds ds', d = .tup ds ∧ d' = .tup ds') ∨ ∃ ds ds', d = .lst ds ∧ d' = .lst ds')) := by
  subst hK
  intro pins s σ H x y v u Q I rx ry h
  obtain ⟨⟨d, d', h, h', sq, sq', hd, q⟩, e, e', g, g', hk⟩ := h
  have e1 := dat_inj I d x e h g
  have e2 := dat_inj I d' y e' h' g'
  subst e1 e2
  have hA : ∀ e : Dt, e.dep ≤ 40 → X.A.in1.units + e.dep < cLine := fun e he => by show X.A.units + 1 + e.dep < cLine; omega
  have hu' : X.A.units < cLine := by omega
  rcases hk with ⟨ds, ds', rfl, rfl⟩ | ⟨ds, ds', rfl, rfl⟩
  · rw [DatAt] at h h'
    obtain ⟨a, xs, rfl, q1, h1⟩ := h
    obtain ⟨b, ys, rfl, q2, h2⟩ := h'
    cases rx
    cases ry
    have ih : ∀ d ∈ ds, ∀ (d' : Dt) (x y : V) (u v : Value), DatAt X.K H x d → DatAt X.K H y d' → RelV x u → RelV y v → SeqAt.EqAt X.A.in1 s u v (d.beq d') := fun d hm d' x y u v h1 h2 r1 r2 =>
      dat_eqAt I d X.A.in1 d' x y u v (hA d (by have := Dt.deps_mem hm; rw [Dt.dep] at hd; omega)) h1 h2 r1 r2
    obtain ⟨its, r1, p1, _⟩ := I.tuple q1
    obtain ⟨its2, r2, p2, _⟩ := I.tuple q2
    have l1 := r1.length
    have l2 := r2.length
    have l3 := h1.length
    have l4 := h2.length
    have z := SeqAt.RcNeAt.tuples (show s.heap.IsTuple a its.toArray from p1) (show s.heap.IsTuple b its2.toArray from p2) hu' (items_eq r1 r2 h1 h2 ih)
    have fin : SeqAt.RcNeAt X.A s (.ref a) (.ref b) (!Dt.beqs ds ds') := by
      by_cases hl : ds.length = ds'.length
      · rw [show min its.toArray.size its2.toArray.size = ds.length by simp; omega, beqs_all ds ds' hl, show (its.toArray.size == its2.toArray.size) = true by simp; omega, Bool.and_true] at z
        exact z
      · rw [show (its.toArray.size == its2.toArray.size) = false by simp; omega, Bool.and_false] at z
        rw [beqs_len ds ds' hl]
        exact z
    exact fin _ _ _ _ ⟨.bl _, H, I, rfl, by simpa [Dt.beq] using q⟩
  · rw [DatAt] at h h'
    obtain ⟨a, xs, rfl, q1, h1⟩ := h
    obtain ⟨b, ys, rfl, q2, h2⟩ := h'
    cases rx
    cases ry
    have ih : ∀ d ∈ ds, ∀ (d' : Dt) (x y : V) (u v : Value), DatAt X.K H x d → DatAt X.K H y d' → RelV x u → RelV y v → SeqAt.EqAt X.A.in1 s u v (d.beq d') := fun d hm d' x y u v h1 h2 r1 r2 =>
      dat_eqAt I d X.A.in1 d' x y u v (hA d (by have := Dt.deps_mem hm; rw [Dt.dep] at hd; omega)) h1 h2 r1 r2
    obtain ⟨its, r1, p1, _⟩ := I.list q1
    obtain ⟨its2, r2, p2, _⟩ := I.list q2
    have l1 := r1.length
    have l2 := r2.length
    have l3 := h1.length
    have l4 := h2.length
    have fin : SeqAt.RcNeAt X.A s (.ref a) (.ref b) (!Dt.beqs ds ds') := by
      by_cases hl : ds.length = ds'.length
      · have z := SeqAt.RcNeAt.lists p1.isList p2.isList (by simp; omega) hu' (items_eq r1 r2 h1 h2 ih)
        rw [show its.toArray.size = ds.length by simp; omega, beqs_all ds ds' hl] at z
        exact z
      · rw [beqs_len ds ds' hl]
        exact SeqAt.RcNeAt.lists_lengths p1.isList p2.isList (by simp; omega) hu'
    exact fin _ _ _ _ ⟨.bl _, H, I, rfl, by simpa [Dt.beq] using q⟩
end
theorem dats_ints {K : PySem.W.Frag} {H : Hp} : ∀ (ns : List Int), DatsAt K H (ns.map V.int) (ns.map Dt.int)
  | [] => by simp [DatsAt]
  | n :: ns => by rw [List.map_cons, List.map_cons, DatsAt]; exact ⟨by rw [DatAt], dats_ints ns⟩
theorem deps_ints : ∀ (ns : List Int), Dt.deps (ns.map Dt.int) = 0
  | [] => by simp [Dt.deps]
  | n :: ns => by rw [List.map_cons, Dt.deps, deps_ints ns]; simp [Dt.dep]
end L2
namespace L2
open PySem PySem.Spec PyProof.Rows
section
variable {X : Cx}
def rTuple (K : PySem.W.Frag) : List V → Hp → VK → Prop := fun xs H Q => ∃ (p : Addr) (ys : List V), xs = [.ref p] ∧ ((SqL K H p ys ∧ ∀ l, H l = none → Q (.ref l) (upd H l (.tup ys))) ∨ (SqT K H p ys ∧ Q (.ref p) H))
theorem call_tupleK (K : PySem.W.Frag) (hK : X.K = K := by rfl) : CallR X (.type "tuple") (rTuple K) := by subst hK; exact call_tuple_of
def Deck (H : Hp) (d : Addr) : Prop := ∃ ms : List Int, H d = some (.lst (ms.map V.int)) ∧ ms ≠ [] ∧ ∀ m ∈ ms, 0 ≤ m
theorem Deck.same {H H' : Hp} {d : Addr} (h : Deck H d) (s : Same H H') : Deck H' d := let ⟨ms, a, b, c⟩ := h; ⟨ms, s _ _ a, b, c⟩
theorem Deck.kb {H H' : Hp} {d e : Addr} (h : Deck H d) (s : KB e H H') (n : d ≠ e) : Deck H' d := let ⟨ms, a, b, c⟩ := h; ⟨ms, s _ _ a n, b, c⟩
theorem Deck.is {H : Hp} {d : Addr} (h : Deck H d) : ∃ xs, H d = some (.lst xs) := let ⟨ms, a, _⟩ := h; ⟨_, a⟩
end
end L2
namespace L2
open PySem
theorem dI {i j : Int} (h : i = j) : decide (V.int i = V.int j) = true := by rw [h]; simp
theorem intItem {ns : List Int} {i : Nat} {x : V} (h : (ns.map V.int)[i]? = some x) : ∃ f, x = .int f ∧ ns[i]? = some f := by
  rw [List.getElem?_map] at h
  cases e : ns[i]? with
  | none => rw [e] at h; cases h
  | some f => rw [e] at h; exact ⟨f, (Option.some.inj h).symm, rfl⟩
end L2
set_option Elab.async false
set_option linter.all false
set_option maxRecDepth 100000
set_option maxHeartbeats 4000000
namespace L2
open PySem PySem.Spec PyProof.Rows
theorem strsAre_of {ys : List Str} : ∀ {us : List Value}, Vals (ys.map V.str) us → StrsAre us ys := by
  induction ys with
  | nil => intro us r; cases r; exact .nil
  | cons y ys ih =>
    intro us r
    rw [List.map_cons] at r
    cases r with
    | cons a b =>
      obtain ⟨t, rfl⟩ := a
      exact .cons y t (ih b)
theorem vals_strs : ∀ {us : List Value} {ys : List Str}, StrsAre us ys → Vals (ys.map V.str) us
  | _, _, .nil => .nil
  | _, _, .cons y t r => .cons ⟨t, rfl⟩ (vals_strs r)
section
variable {X : Cx}
def rSortS (K : PySem.W.Frag) : List V → Hp → VK → Prop := fun xs H Q => ∃ (a : Addr) (ss : List Str), xs = [.ref a] ∧ SqL K H a (ss.map V.str) ∧ ss.length < 64 ∧
  ∀ (p : Addr) (ss' : List Str), H p = none → ss'.Perm ss → PyProof.Rows.sortedS ss' = true → Q (.ref p) (upd H p (.lst (ss'.map V.str)))
theorem call_sortSK (K : PySem.W.Frag) (hK : X.K = K := by rfl) : CallR X (.builtin "sorted") (rSortS K) := by
  subst hK
  intro pins s σ H xs us Q I r h
  obtain ⟨a, ss, rfl, hq, hl, q⟩ := h
  obtain ⟨u, rfl, ru⟩ := vals1 r
  cases ru
  obtain ⟨its, rv, p, hz⟩ := I.list hq
  have hlen := rv.length
  rw [List.length_map] at hlen
  refine sorted_strs p.isList (strsAre_of rv) (by omega) fun out ss' a1 a2 a3 => ?_
  obtain ⟨e, he⟩ := sortedAll_at s.heap its out
  have hp : s.heap.objs.size ≤ s.heap.objs.size + 1 := Nat.le_succ _
  refine ⟨.ref (s.heap.objs.size + 1), upd H (s.heap.objs.size + 1) (.lst (ss'.map V.str)), ?_, rfl, q _ ss' (I.hok.fresh hp) a2 a3⟩
  refine I.laid (t' := s.toks) (h' := sortedAll s.heap its out) (fun _ _ => sortedAll_old) hp ⟨?_, out.toList, e, vals_strs a1, ?_⟩
  · rw [List.length_map, a2.length_eq]
    rw [List.length_map] at hz
    exact hz
  · rw [he]
    first
      | done
      | rfl
def rSlS : V → Option Int → Option Int → Hp → VK → Prop := fun x lo hi H Q => ∃ z : Str, x = .str z ∧ z.length ≤ sizeLine ∧ Q (.str (Txt.slice z lo hi)) H
theorem isPart_part {v : Value} {o : Option Int} (p : IsPart v o) : ∃ l : Option (Int × Tok), v = partValue l ∧ l.map (·.1) = o := by
  cases p with
  | none => exact ⟨none, rfl, rfl⟩
  | int i t => exact ⟨some (i, t), rfl, rfl⟩
theorem sl_str : SlR X rSlS := by
  intro pins s σ H x v vl vu lo hi sl Q I rx hs pl pu h
  obtain ⟨z, rfl, hz, q⟩ := h
  obtain ⟨t, rfl⟩ := rx
  obtain ⟨l, rfl, hl⟩ := isPart_part pl
  obtain ⟨u, rfl, hu⟩ := isPart_part pu
  subst hl hu
  obtain ⟨o, ho, hc, hd⟩ := hs
  refine ⟨"str", _, PySem.F.slot_str_getitem.lookup, typeIs_str _ _ _, wpAny_getItem_str_slice (l := l) (u := u) (st := none) ⟨o, ho, hc, hd⟩ rfl ?_⟩
  exact post_val_or_str ⟨Nat.le_trans (Txt.slice_le z _ _) hz, fun t' k => ⟨.str _, H, I.tok k, ⟨t', rfl⟩, q⟩⟩
end
section
variable {X : Cx}
theorem pg_tupK (K : PySem.W.Frag) {es : List Expr} {k : Nat} {t : TGs} {n : Nat} {pos : Pos} (hc : X.calm = true) (h : PGs X es t)
    (hn : (assignEach es X.env).length = n := by rfl) (hst : (assignEach es X.env).findIdx? (·.1) = none := by rfl) (hK : X.K = K := by rfl) : PG X (.Tuple es k pos) (gTup K n t) := by
  subst hK; exact pg_tup hc h hn hst
end
mutual
def Dt.noL : Dt → Bool
  | .lst _ => false
  | .tup xs => Dt.noLs xs
  | _ => true
def Dt.noLs : List Dt → Bool
  | [] => true
  | x :: xs => x.noL && Dt.noLs xs
end
def KTs (K : PySem.W.Frag) (H H' : Hp) : Prop := ∀ a xs, SqT K H a xs → SqT K H' a xs
theorem KTs.refl {K : PySem.W.Frag} (H : Hp) : KTs K H H := fun _ _ h => h
theorem KTs.trans {K : PySem.W.Frag} {H H1 H2 : Hp} (a : KTs K H H1) (b : KTs K H1 H2) : KTs K H H2 := fun c o h => b c o (a c o h)
theorem dat_lst {K : PySem.W.Frag} {H : Hp} {a : Addr} {xs : List V} {ds : List Dt} (h : SqL K H a xs) (d : DatsAt K H xs ds) : DatAt K H (.ref a) (.lst ds) := by rw [DatAt]; exact ⟨a, xs, rfl, h, d⟩
end L2
namespace L2
theorem seq_const {v : V} {i : Nat} {u : TS} {D : Ends} {σ : St} {H : Hp} (h : u D (σ.set i (some v)) H) : tSeq (tAsg (tC v) (gName i)) u D σ H := h
end L2
namespace L2
open PySem
def KB2 (d e : Addr) (H H' : Hp) : Prop := ∀ b o, H b = some o → b ≠ d → b ≠ e → H' b = some o
theorem KB2.trans {d e : Addr} {H H1 H2 : Hp} (a : KB2 d e H H1) (b : KB2 d e H1 H2) : KB2 d e H H2 := fun c o h n m => b c o (a c o h n m) n m
theorem KB.l {d e : Addr} {H H' : Hp} (k : KB d H H') : KB2 d e H H' := fun b o h n _ => k b o h n
theorem KB.r {d e : Addr} {H H' : Hp} (k : KB e H H') : KB2 d e H H' := fun b o h _ n => k b o h n
theorem KB2.seq {K : PySem.W.Frag} {d e : Addr} {H H' : Hp} {a : Addr} {xs : List V} (k : KB2 d e H H') (n : a ≠ d) (m : a ≠ e) (h : SqL K H a xs) : SqL K H' a xs := by
  rcases h with (h | ⟨o, h⟩) | h
  · exact .inl (.inl (k _ _ h n m))
  · exact .inl (.inr ⟨o, k _ _ h n m⟩)
  · exact .inr h
theorem FnOk.none {P : Program} {w : World} {K : PySem.W.Frag} {mg : Str → Option Value} {base : Heap} {CX : CXT} {k : Nat} {f : Addr} {fd : FuncData} {ps : List Str} {sp : Sp} (h : ∀ vs H Q E, ¬ sp vs H Q E) : FnOk P w K mg base CX k f fd ps sp :=
  ⟨fun vs H Q E q => (h _ _ _ _ q).elim, fun A outer s H args us vs Q E _ _ _ _ hs => (h _ _ _ _ hs).elim⟩
end L2
set_option Elab.async false
set_option linter.all false
set_option maxRecDepth 100000
set_option maxHeartbeats 4000000
namespace L2
open PySem PySem.Spec PyProof.Rows
section
variable {prog : Program} {w : World} {A : Around} {s : Shared} {R : Result → Shared → Prop}
end
section
variable {prog : Program} {w : World} {A : Around} {E : Value → Shared → Prop} {s : Shared}
end
section
variable {X : Cx}
end
section
variable {prog : Program} {w : World} {A : Around} {R : Result → Shared → Prop} {I : Addr} {fp wr : List Addr} {St : Nat → Heap → Prop} {its : Array Value} {val : Nat → Int} {kw : List (Str × Value)}
end
section
variable {prog : Program} {w : World} {A : Around} {E : Value → Shared → Prop} {s : Shared}
end
section
variable {X : Cx}
end
end L2
set_option Elab.async false
set_option linter.all false
set_option maxRecDepth 100000
set_option maxHeartbeats 4000000
namespace L2
open PySem PySem.Spec PyProof.Rows
open AutoSeq1 (wpAny_loadPart')
section
variable {prog : Program} {w : World} {A : Around} {E : Value → Shared → Prop} {s : Shared}
theorem nextOf_tupI {it t : Addr} {i : Nat} {items : Array Value} {x : Value} {Q : Value → Shared → Prop} (hit : s.heap.IsTupleIter it t i) (ht : s.heap.IsTuple t items) (hx : items[i]? = some x)
    (hQ : ∀ h', h'.IsTupleIter it t (i + 1) → Heap.SameBut it s.heap h' → Q x { s with heap := h' }) : wpAny (model prog w) A (Builtin.SmallTypes.nextOf (.ref it)) Q E s := by
  obtain ⟨o, ho, hc, hd⟩ := id hit
  obtain ⟨ol, hol, _, nl, hdl⟩ := ht
  unfold Builtin.SmallTypes.nextOf
  refine wpAny_bind (wpAny_callSpecial?_slot (name := Str.ofString "__next__") hit.typeIs F.slot_tuple_iterator_next (wpAny_call_entry F.slot_tuple_iterator_next hit.typeIs F.entry_tuple_iterator_next ?_ (F.args_tuple_iterator_next_1 _)))
  (show wpAny _ _ (field (.ref it) 0 >>= _) _ _ s); (refine wpAny_bind (wpAny_field ho hd (x := .ref t) rfl ?_))
  (show wpAny _ _ (if (Value.ref t == Value.none) = true then _ else _) _ _ s); rw [if_neg (show ¬ ((Value.ref t == Value.none) = true) from Bool.false_ne_true)]
  (show wpAny _ _ (field (.ref it) 1 >>= _) _ _ s); (refine wpAny_bind (wpAny_field ho hd (x := .int i 0) rfl ?_))
  (show wpAny _ _ (seqItems? (.ref t) >>= _) _ _ s); (refine wpAny_bind (wpAny_seqItems hol hdl ?_))
  simp only [Int.toNat_natCast, hx]; refine wpAny_bind (wpAny_setField ho hd (by simp) (wpAny_pure ⟨x, rfl, wpAny_pure (hQ _ ?_ (Heap.SameBut.update ..))⟩))
  exact ⟨_, Heap.get?_update_self _ ho (Obj.isFreed_of_fields (Obj.data_mapFields hd _)), (Obj.cls_mapFields ..).trans hc, (by rw [Obj.data_mapFields hd]; simp [rawInt])⟩
theorem nextOf_tupE {it t : Addr} {i : Nat} {items : Array Value} {Q : Value → Shared → Prop} (hh : A.handled = none) (hit : s.heap.IsTupleIter it t i) (ht : s.heap.IsTuple t items) (hx : items[i]? = none)
    (hE : ∀ h' e, Heap.ExtBut it s.heap h' → (∃ o, h'.get? e = some o ∧ o.cls = .type "StopIteration") → E (.ref e) { s with heap := h' }) : wpAny (model prog w) A (Builtin.SmallTypes.nextOf (.ref it)) Q E s := by
  obtain ⟨o, ho, hc, hd⟩ := id hit
  obtain ⟨ol, hol, _, nl, hdl⟩ := ht
  unfold Builtin.SmallTypes.nextOf
  refine wpAny_bind (wpAny_callSpecial?_slot (name := Str.ofString "__next__") hit.typeIs F.slot_tuple_iterator_next (wpAny_call_entry F.slot_tuple_iterator_next hit.typeIs F.entry_tuple_iterator_next ?_ (F.args_tuple_iterator_next_1 _)))
  (show wpAny _ _ (field (.ref it) 0 >>= _) _ _ s); (refine wpAny_bind (wpAny_field ho hd (x := .ref t) rfl ?_))
  (show wpAny _ _ (if (Value.ref t == Value.none) = true then _ else _) _ _ s); rw [if_neg (show ¬ ((Value.ref t == Value.none) = true) from Bool.false_ne_true)]
  (show wpAny _ _ (field (.ref it) 1 >>= _) _ _ s); (refine wpAny_bind (wpAny_field ho hd (x := .int i 0) rfl ?_))
  (show wpAny _ _ (seqItems? (.ref t) >>= _) _ _ s); (refine wpAny_bind (wpAny_seqItems hol hdl ?_))
  simp only [Int.toNat_natCast, hx]; refine wpAny_bind (wpAny_rule (wpAny_bind (wpAny_setField ho hd (by simp) ?_)))
  (show wpAny _ _ (newExc (.type "StopIteration") [] >>= _) _ _ _); (refine wpAny_bind ?_); simp only [newExc, newTuple]
  (refine wpAny_bind (wpAny_newObj_type ?_ (by size_fits)))
  (refine wpAny_bind (m := firstArgMember _ _) (wpAny_of_eq (a := Value.none) (by first | rfl | (simp only [firstArgMember]; rfl)) ?_)); (refine wpAny_newObj_type ?_ (by size_fits))
  simp only [raiseNew]; refine wpAny_bind (wpAny_handled ?_)
  (first | rw [show A.in1.handled = none from hh] | rw [hh]); refine wpAny_bind (wpAny_pure (wpAny_throw ?_))
  exact hE _ _ (((Heap.SameBut.update (a := it) ..).extBut.push _).push _) ⟨_, Heap.get?_push_size _ rfl, rfl⟩
theorem draws_tup (hh : A.handled = none) (it t : Addr) (hne : t ≠ it) (items : Array Value) : Draws prog w A it [it, t] items.size (fun i v => items[i]? = some v) (fun i h => h.IsTupleIter it t i ∧ h.IsTuple t items) where
  live := fun _ _ st => let ⟨o, ho, _⟩ := st.1; ⟨o, ho⟩
  frame := fun _ _ _ st hk => ⟨(let ⟨o, ho, r⟩ := st.1; ⟨o, hk it (by simp) o ho, r⟩), (let ⟨o, ho, r⟩ := st.2; ⟨o, hk t (by simp) o ho, r⟩)⟩
  item := fun i s Q E hi st hQ => nextOf_tupI st.1 st.2 (x := items[i]) (by simp [hi]) fun h' hit' hs' => hQ _ h' s.toks (by simp [hi]) ⟨hit', (let ⟨o, ho, r⟩ := st.2; ⟨o, (hs'.2 t hne).trans ho, r⟩)⟩ hs'
  done := fun s Q E st hE => nextOf_tupE hh st.1 st.2 (by simp) hE
theorem draws_tupE (hh : A.handled = none) (it t : Addr) (items : Array Value) (i : Nat) (hx : items[i]? = none) : Draws prog w A it [it, t] 0 (fun _ _ => True) (fun _ h => h.IsTupleIter it t i ∧ h.IsTuple t items) where
  live := fun _ _ st => let ⟨o, ho, _⟩ := st.1; ⟨o, ho⟩
  frame := fun _ _ _ st hk => ⟨(let ⟨o, ho, r⟩ := st.1; ⟨o, hk it (by simp) o ho, r⟩), (let ⟨o, ho, r⟩ := st.2; ⟨o, hk t (by simp) o ho, r⟩)⟩
  item := fun i s Q E hi st hQ => absurd hi (Nat.not_lt_zero _)
  done := fun s Q E st hE => nextOf_tupE hh st.1 st.2 hx hE
end
theorem meets_enum_newT (l : Addr) (items : Array Value) (n : Nat) (dct : Option Addr) (sl : Array (Option Value)) :
    Meets (Builtin.«enumerate.__new__» ⟨[.type "enumerate", .ref l], []⟩) (fun _ R s => s.heap.get? l = some { cls := .type "tuple", dict := dct, data := .seq items n, slots := sl } ∧ R (.ok (.ret (.ref (s.heap.push { cls := .type "tuple_iterator", data := .fields #[.ref l, .int 0 0] }).objs.size)))
        { s with heap := (s.heap.push { cls := .type "tuple_iterator", data := .fields #[.ref l, .int 0 0] }).push { cls := .type "enumerate", data := .fields #[.none, .bool false, .ref s.heap.objs.size, rawInt 0, .none, .none] } }) :=
  .of_wp fun prog w A R s h => by
    obtain ⟨hp, g, d, tk, os⟩ := s
    obtain ⟨hl, h⟩ := h
    have hsub := sub_enumerate
    have hL : Heap.IsTuple (Shared.heap ⟨hp, g, d, tk, os⟩) l items := ⟨_, hl, rfl, n, rfl⟩
    wp_walk using wpAny_loadPart' hl
    (refine wpAny_stack_any fun st => wpAny_pure ?_); split
    · rename_i c _ _ _ _ _
      cases (c == Value.type "enumerate")
      · wp_walk using wpAny_loadPart' hl, wpAny_pyIter_tuple hL
        exact ⟨_, rfl, h⟩
      · wp_walk using wpAny_loadPart' hl, wpAny_pyIter_tuple hL
        exact ⟨_, rfl, h⟩
    · wp_walk using wpAny_loadPart' hl, wpAny_pyIter_tuple hL
      exact ⟨_, rfl, h⟩
section
variable {prog : Program} {w : World} {A : Around} {E : Value → Shared → Prop} {s : Shared}
theorem call_enum_tup {l : Addr} {items : Array Value} {Q : Value → Shared → Prop} (hL : s.heap.IsTuple l items)
    (h : ∀ h', IsEnum h' (s.heap.objs.size + 1) s.heap.objs.size 0 .none → h'.IsTupleIter s.heap.objs.size l 0 → h'.objs.size = s.heap.objs.size + 2 → (∀ b o, s.heap.get? b = some o → h'.get? b = some o) → Q (.ref (s.heap.objs.size + 1)) { s with heap := h' }) :
    wpAny (model prog w) A (call (.type "enumerate") [.ref l]) Q E s := by
  obtain ⟨⟨c, dct, dt, sl⟩, hl, hc, n, hd⟩ := hL
  replace hc : c = .type "tuple" := hc
  replace hd : dt = .seq items n := hd
  subst hc hd
  refine callType_new F.called_enumerate (by decide) (F.typeCall_enumerate_1 _) (F.newCall_enumerate_1 _) (fun obj => F.args_object_init_2 obj _) F.entry_enumerate_new (meets_enum_newT l items n dct sl) ⟨hl, ?_⟩
  have hz : (s.heap.push { cls := .type "tuple_iterator", data := .fields #[.ref l, .int 0 0] }).objs.size = s.heap.objs.size + 1 := Heap.size_push ..
  show _ ∧ _
  rw [hz]
  have he : IsEnum ((s.heap.push { cls := .type "tuple_iterator", data := .fields #[.ref l, .int 0 0] }).push { cls := .type "enumerate", data := .fields #[.none, .bool false, .ref s.heap.objs.size, rawInt 0, .none, .none] }) (s.heap.objs.size + 1) s.heap.objs.size 0 .none := by
    have := Heap.get?_push_size (s.heap.push { cls := .type "tuple_iterator", data := .fields #[.ref l, .int 0 0] }) (o := { cls := .type "enumerate", data := .fields #[.none, .bool false, .ref s.heap.objs.size, rawInt 0, .none, .none] }) rfl
    rw [hz] at this; exact this
  exact ⟨⟨_, he, rfl⟩, h _ he ⟨_, Heap.get?_push_of_some _ (Heap.get?_push_size _ rfl), rfl, rfl⟩ (by rw [Heap.size_push, hz]) fun b o x => Heap.get?_push_of_some _ (Heap.get?_push_of_some _ x)⟩
end
def ItnT (K : PySem.W.Frag) (a : Addr) : It :=
  ⟨fun i H => ∃ xs x, SqT K H a xs ∧ xs[i]? = some x,
   fun i H x H' => ∃ y p, (∀ xs, SqT K H a xs → xs[i]? = some y) ∧ H p = none ∧ x = .ref p ∧ H' = upd H p (.tup [.int i, y]),
   fun i H => ∃ xs, SqT K H a xs ∧ xs.length ≤ i⟩
theorem turn_enumT {P : Program} {w : World} {K : PySem.W.Frag} {elts : List Expr} {x1} {tpos : Pos} (a e it : Addr) (hne : e ≠ it) (hea : e ≠ a) (hia : it ≠ a) :
    Turn P w K (.Tuple elts x1 tpos) (ItnT K a) [e, it] e (fun i h => (∃ old, IsEnum h e it i old) ∧ h.IsTupleIter it a i) where
  mem := by simp
  obj := fun i h st b hb => by
    obtain ⟨⟨old, st1⟩, st2⟩ := st
    rcases List.mem_cons.mp hb with z | z
    · subst z; exact ⟨_, st1, fun v z => by cases z⟩
    · have z' : b = it := by simpa using z
      subst z'
      obtain ⟨o, e, c, d⟩ := st2
      exact ⟨o, e, fun v z => by rw [d] at z; cases z⟩
  keep := fun i h h' st k => by
    obtain ⟨⟨old, st1⟩, st2⟩ := st
    exact ⟨⟨old, k e (by simp) _ st1⟩, let ⟨o, q, r⟩ := st2; ⟨o, k it (by simp) o q, r⟩⟩
  item := by
    intro X hP hw hK hc i pins s σ H E I hf st hg
    subst hP hw hK
    obtain ⟨⟨old, st1⟩, st2⟩ := st
    obtain ⟨xs, x, hq, hx⟩ := hg
    obtain ⟨its, rv, p, hz⟩ := I.tuple hq
    obtain ⟨u, hu, ru⟩ := rv.get hx
    have hlt : i < its.toArray.size := by
      have := (List.getElem?_eq_some_iff.mp hu).1
      simpa using this
    have D := draws_tup (prog := X.prog) (w := X.w) (A := X.A.in1) (I.ok.hd hc) it a (Ne.symm hia) its.toArray
    refine wpAny_pyNext_enum_itemD D st1 ⟨st2, p⟩ hlt hne (by simp [hne, hea]) fun v h1 tk hv eo it1 ht hsz kk => ?_
    have ev : v = u := by
      have : its[i]? = some v := by simpa using hv
      rw [hu] at this
      exact (Option.some.inj this).symm
    subst ev
    have nn : H s.heap.objs.size = none := I.hok.fresh (Nat.le_refl _)
    have I1 : Inv X pins σ (upd H s.heap.objs.size (.tup [.int i, x])) { s with heap := h1, toks := tk + 1 } :=
      I.turnLaid (ch := [e, it]) hf (fun b o hb q => kk b o (fun z => hb (by simp [z])) (fun z => hb (by simp [z])) q) (Nat.le_refl _)
        ⟨by show 2 ≤ sizeLine; decide, [.int i tk, v], .cons ⟨_, rfl⟩ (.cons ru .nil), ⟨_, ht, rfl, _, rfl⟩⟩
    have le : e < s.heap.objs.size := Heap.lt_size st1
    have li : it < s.heap.objs.size := by obtain ⟨o, q, _⟩ := id st2; exact Heap.lt_size q
    refine ⟨_, rfl, wpAny_letOwnedTupleGo_enum eo fun h2 e2 sb => ?_⟩
    obtain ⟨f0, f1, f2, f3, f4, f5⟩ := hf e (by simp)
    have I2 := I1.turned (h' := h2) (t' := tk + 1) (it := e) (fun b o hb q => (sb.2 b hb).trans q) (by rw [upd_ne (Nat.ne_of_lt le)]; exact f0) f1 f3 f4 f5
    refine ⟨.ref s.heap.objs.size, _, I2, rfl, ⟨x, s.heap.objs.size, fun ys hy => by rw [I.tuple_inj hy hq]; exact hx, nn, rfl, rfl⟩, ⟨⟨v, by simpa using e2⟩, let ⟨o, q, r⟩ := it1.1; ⟨o, (sb.2 it (Ne.symm hne)).trans q, r⟩⟩, fun b hb => ?_⟩
    rcases List.mem_cons.mp hb with z | z
    · subst z; rw [upd_ne (Nat.ne_of_lt le)]; exact f0
    · have z' : b = it := by simpa using z
      subst z'; rw [upd_ne (Nat.ne_of_lt li)]; exact (hf b (by simp)).1
  done := by
    intro X hP hw hK hc i pins s σ H E I hf st hg
    subst hP hw hK
    obtain ⟨⟨old, st1⟩, st2⟩ := st
    obtain ⟨xs, hq, hx⟩ := hg
    obtain ⟨its, rv, p, hz⟩ := I.tuple hq
    obtain ⟨f0, f1, f2, f3, f4, f5⟩ := hf it (by simp)
    have hl := rv.length
    have D := draws_tupE (prog := X.prog) (w := X.w) (A := X.A.in1) (I.ok.hd hc) it a its.toArray i (by simp; omega)
    exact wpAny_pyNext_enum_endD D st1 ⟨st2, p⟩ fun h' eb => ⟨rfl, I.turned (t' := s.toks) (fun b o hb e => eb b o hb e) f0 f1 f3 f4 f5⟩
  self := fun _ _ _ _ _ st h => by
    obtain ⟨⟨old, st1⟩, st2⟩ := st
    exact wpAny_pyIter_enum st1 h
def iEnumT (K : PySem.W.Frag) (ta : TA) : TI := fun σ H R => ta σ H fun vs H1 => ∃ a, vs = [.ref a] ∧ (∃ xs, SqT K H1 a xs) ∧ R (ItnT K a) H1
theorem pi_enumT {X : Cx} {elts : List Expr} {x1} {tpos : Pos} {a : Expr} {ta : TA} {p pos : Pos} (hg : Gl X "enumerate") (hm : X.mg "enumerate" = none) (ha : PA X [a] ta) (hs : starEach [a] X.env = [(false, eval a X.env)] := by rfl) :
    PI X (.Tuple elts x1 tpos) (.Call (.Name "enumerate" p) [a] [] pos) (iEnumT X.K ta) := by
  intro pins s σ H R I h
  refine Call_ (ld_blt I hg hm boot_enumerate (PyProof.Rows.callWith_type1 (thn (ha pos pins s σ H _ I h) fun us s1 ⟨vs, H1, I1, r1, q1⟩ => ?_) hs rfl))
  obtain ⟨l, e, ⟨xs, hq⟩, q⟩ := q1
  subst e
  cases r1 with
  | cons r rr =>
    cases rr
    cases r
    obtain ⟨its, rv, pl, hz⟩ := I1.tuple hq
    have bl : l < s1.heap.objs.size := by obtain ⟨o, e, _⟩ := pl; exact Heap.lt_size e
    refine call_enum_tup pl fun h' he hit hsz kk => ?_
    have I2 : Inv X pins σ H1 { s1 with heap := h' } := I1.kept (t' := s1.toks) kk
    refine wpAny_pyIter_enum he ?_
    refine ⟨s1.heap.objs.size + 1, [s1.heap.objs.size + 1, s1.heap.objs.size], _, _, H1, rfl, I2, turn_enumT l _ _ (Nat.succ_ne_self _) (Nat.ne_of_gt (Nat.lt_succ_of_lt bl)) (Nat.ne_of_gt bl), ⟨⟨_, by simpa using he⟩, hit⟩, fun b hb => ?_, q⟩
    rcases List.mem_cons.mp hb with z | z
    · subst z; exact I1.fpOk (Nat.le_succ _) (I1.hok.fresh (Nat.le_succ _))
    · have z' : b = s1.heap.objs.size := by simpa using z
      subst z'; exact I1.fpOk (Nat.le_refl _) (I1.hok.fresh (Nat.le_refl _))
theorem for_enumT {K : PySem.W.Frag} {a : Addr} {xs : List V} {g : TG} {tb : TS} {D : Ends} {σ : St} {H : Hp} (Pv : Nat → St → Hp → Prop) (h0 : Pv 0 σ H) (hl : ∀ i σ H, i ≤ xs.length → Pv i σ H → SqT K H a xs)
    (hs : ∀ i x p σ H, xs[i]? = some x → Pv i σ H → H p = none → g (.ref p) σ (upd H p (.tup [.int i, x])) fun σ2 H2 => tb { D with nx := Pv (i + 1), ct := Pv (i + 1), bk := D.nx } σ2 H2) (hd : ∀ σ H, Pv xs.length σ H → D.nx σ H) :
    ∃ W : Nat → Nat → St → Hp → Prop, (∃ m, W 0 m σ H) ∧ ∀ i m σ H, W i m σ H →
      ((ItnT K a).stop i H ∧ D.nx σ H) ∨ ((ItnT K a).go i H ∧ ∃ N : St → Hp → Prop, (∀ σ' H', N σ' H' → ∃ m', m' < m ∧ W (i + 1) m' σ' H') ∧ ∀ x H', (ItnT K a).yld i H x H' → g x σ H' fun σ2 H2 => tb { D with nx := N, ct := N, bk := D.nx } σ2 H2) := by
  refine ⟨fun i m σ H => m = xs.length - i ∧ i ≤ xs.length ∧ Pv i σ H, ⟨xs.length, by simp, Nat.zero_le _, h0⟩, ?_⟩
  rintro i m σ H ⟨rfl, hi, p⟩
  have q := hl i σ H hi p
  by_cases hlt : i < xs.length
  · refine .inr ⟨⟨xs, xs[i], q, by simp [hlt]⟩, Pv (i + 1), fun σ' H' p' => ⟨xs.length - (i + 1), by omega, rfl, hlt, p'⟩, fun x H' y => ?_⟩
    obtain ⟨z, pa, hz, hn, e1, e2⟩ := y
    subst e1 e2
    exact hs i z pa σ H (hz xs q) p hn
  · have e : i = xs.length := by omega
    subst e
    exact .inl ⟨⟨xs, q, Nat.le_refl _⟩, hd σ H p⟩
end L2
set_option Elab.async false
set_option linter.all false
set_option maxRecDepth 100000
set_option maxHeartbeats 4000000
namespace L2
open PySem PySem.Spec PyProof.Rows
section
variable {X : Cx}
end
end L2
set_option Elab.async false
set_option linter.all false
set_option maxRecDepth 100000
set_option maxHeartbeats 4000000
namespace L2
open PySem PySem.Spec PyProof.Rows
section
variable {X : Cx} {pins : List (Addr × Obj)} {σ : List (Option V)} {H : Hp} {s : Shared}
theorem Inv.freeze {d : Addr} {kvs : List (Key × V)} (I : Inv X pins σ H s) (e : H d = some (.dK kvs)) : ∃ o, Inv X pins σ (upd H d (.frz o (.dK kvs))) s := by
  obtain ⟨hz, lo, vs, rel, dd⟩ := dk_of I.hok e
  obtain ⟨o, es, ep, ho, r⟩ := id dd
  exact ⟨o, I.write (x := d) (e := d) (o := .frz o (.dK kvs)) (h' := s.heap) (t' := s.toks) (by rw [e]; trivial) (.inl rfl) (fun b u _ q => q) ⟨o, ho⟩ ⟨ho, hz, lo, vs, rel, dd⟩⟩
theorem Inv.frozen {d : Addr} {kvs : List (Key × V)} {o : Obj} (I : Inv X pins σ H s) (e : H d = some (.frz o (.dK kvs))) : ∃ vs es ep, KV kvs vs ∧ o.data = .dict es ep ∧ s.heap.DictAt (mixKind X.prog X.w) d vs ep ∧ (d == sysModules) = false := by
  obtain ⟨ho, hz, lo, vs, rel, dd⟩ := (show ObjOk X.prog X.w H s.heap d (.frz o (.dK kvs)) from I.hok d _ e)
  obtain ⟨o2, es, ep, ho2, r1, r2, r3⟩ := id dd
  have : o2 = o := by rw [ho] at ho2; exact (Option.some.inj ho2).symm
  subst this
  exact ⟨vs, es, ep, rel, r2, ⟨o2, es, ho2, r1, r2, r3⟩, lo⟩
end
theorem rel_kV {k : Key} {v : Value} (h : keyIs k v = true) : RelV (kV k) v := by
  rcases keyIs_shape h with ⟨i, t, rfl, rfl⟩ | ⟨x, t, rfl, rfl⟩
  · exact ⟨t, rfl⟩
  · exact ⟨t, rfl⟩
theorem kv_at {kvs : List (Key × V)} {vs : List (Key × Value)} (r : KV kvs vs) {i : Nat} {k : Key} {v : V} (e : kvs[i]? = some (k, v)) : ∃ u, vs[i]? = some (k, u) ∧ RelV v u := by
  unfold KV at r
  induction r generalizing i with
  | nil => simp at e
  | @cons p q ps qs h t ih =>
    cases i with
    | zero =>
      have e' : p = (k, v) := by simpa using e
      subst e'
      obtain ⟨q1, q2⟩ := q
      obtain ⟨h1, h2⟩ := h
      cases (show k = q1 from h1)
      exact ⟨q2, rfl, h2⟩
    | succ i => exact ih (by simpa using e)
def Itd (d : Addr) (o : Obj) (kvs : List (Key × V)) : It :=
  ⟨fun i H => H d = some (.frz o (.dK kvs)) ∧ i < kvs.length, fun i H x H' => H' = H ∧ ∃ k v, kvs[i]? = some (k, v) ∧ x = kV k, fun i H => H d = some (.frz o (.dK kvs)) ∧ kvs.length ≤ i⟩
theorem turn_dict {P : Program} {w : World} {K : PySem.W.Frag} {tg : Expr} (d it : Addr) (o : Obj) (kvs : List (Key × V)) :
    Turn P w K tg (Itd d o kvs) [it] it (fun i h => ∃ es ep, o.data = .dict es ep ∧ h.IsKeyIter it d i kvs.length ep) where
  mem := by simp
  obj := fun i h st b hb => by
    have e : b = it := by simpa using hb
    subst e
    obtain ⟨_, _, _, o, e, c, d⟩ := st
    exact ⟨o, e, fun v z => by rw [d] at z; cases z⟩
  keep := fun i h h' st k => by
    obtain ⟨es, ep, h1, st⟩ := st
    exact ⟨es, ep, h1, st.at fun o e => k it (by simp) o e⟩
  item := by
    intro X hP hw hK hc i pins s σ H E I hf st hg
    subst hP hw hK
    obtain ⟨es, ep, h1, st⟩ := st
    obtain ⟨hH, hi⟩ := hg
    obtain ⟨vs, es', ep', rel, h2, da, lo⟩ := I.frozen hH
    have ee : ep' = ep := by rw [h1] at h2; cases h2; rfl
    subst ee
    have hl : kvs.length = vs.length := rel.length
    obtain ⟨⟨k, v⟩, hk⟩ : ∃ p, kvs[i]? = some p := ⟨kvs[i], by simp [hi]⟩
    obtain ⟨u, hu, ru⟩ := kv_at rel hk
    obtain ⟨f0, f1, f2, f3, f4, f5⟩ := hf it (by simp)
    rw [hl] at st
    refine wpAny_pyNext_dict_item st da hu fun key h' hkey st' sb => ?_
    have I1 : Inv X pins σ H { s with heap := h' } := I.turned (t' := s.toks) (fun b o hb e => (sb.2 b hb).trans e) f0 f1 f3 f4 f5
    obtain ⟨o', e, c, d'⟩ := id st'
    rw [← hl] at st'
    exact ⟨key, rfl, go_of (s := { s with heap := h' }) e c d' (by decide) ⟨kV k, H, I1, rel_kV hkey, ⟨rfl, k, v, hk, rfl⟩, ⟨es, ep', h1, st'⟩, fun b hb => (hf b hb).1⟩⟩
  done := by
    intro X hP hw hK hc i pins s σ H E I hf st hg
    subst hP hw hK
    obtain ⟨es, ep, h1, st⟩ := st
    obtain ⟨hH, hi⟩ := hg
    obtain ⟨vs, es', ep', rel, h2, da, lo⟩ := I.frozen hH
    have ee : ep' = ep := by rw [h1] at h2; cases h2; rfl
    subst ee
    have hl : kvs.length = vs.length := rel.length
    rw [hl] at st
    obtain ⟨f0, f1, f2, f3, f4, f5⟩ := hf it (by simp)
    exact wpAny_pyNext_dict_end (I.ok.hd hc) st da (List.getElem?_eq_none (by omega)) fun h' eb => ⟨rfl, I.turned (t' := s.toks) (fun b o hb e => eb b o hb e) f0 f1 f3 f4 f5⟩
  self := fun _ _ _ _ _ st h => by
    obtain ⟨_, _, _, st⟩ := st
    exact wpAny_pyIter_keyiter st h
section
variable {X : Cx} {tg : Expr}
def iDictF (tl : TE) : TI := fun σ H R => tl σ H fun x H1 => ∃ d kvs, x = .ref d ∧ H1 d = some (.dK kvs) ∧ ∀ o, R (Itd d o kvs) (upd H1 d (.frz o (.dK kvs)))
theorem pi_dictF {l : Expr} {tl : TE} (hl : PE X l tl) : PI X tg l (iDictF tl) := by
  intro pins s σ H R I h
  refine thn (hl pins s σ H _ I h) fun v s1 ⟨x, H0, I0, r1, q1⟩ => ?_
  obtain ⟨d, kvs, e, hd0, q0⟩ := q1
  subst e
  cases r1
  obtain ⟨o, I1⟩ := I0.freeze hd0
  have q := q0 o
  have hd : (upd H0 d (.frz o (.dK kvs))) d = some (.frz o (.dK kvs)) := upd_same
  generalize upd H0 d (.frz o (.dK kvs)) = H1 at I1 q hd
  obtain ⟨vs, es, ep, rel, h2, da, lo⟩ := I1.frozen hd
  have hl' : kvs.length = vs.length := rel.length
  refine wpAny_pyIter_dict lo da ?_
  refine ⟨s1.heap.objs.size, [s1.heap.objs.size], _, _, H1, rfl, I1.kept (t' := s1.toks) fun b o e => Heap.get?_push_of_some _ e, turn_dict d _ o kvs, ⟨es, ep, h2, ⟨_, Heap.get?_push_size _ rfl, rfl, by rw [hl']; rfl⟩⟩, fun b hb => ?_, q⟩
  have e : b = s1.heap.objs.size := by simpa using hb
  subst e
  exact I1.fpOk (Nat.le_refl _) (I1.hok.fresh (Nat.le_refl _))
end
theorem for_dict {d : Addr} {ob : Obj} {kvs : List (Key × V)} {g : TG} {tb : TS} {D : Ends} {σ : St} {H : Hp} (Pv : Nat → St → Hp → Prop) (h0 : Pv 0 σ H) (hl : ∀ i σ H, i ≤ kvs.length → Pv i σ H → H d = some (.frz ob (.dK kvs)))
    (hs : ∀ i k v σ H, kvs[i]? = some (k, v) → Pv i σ H → g (kV k) σ H fun σ2 H2 => tb { D with nx := Pv (i + 1), ct := Pv (i + 1), bk := D.nx } σ2 H2) (hd : ∀ σ H, Pv kvs.length σ H → D.nx σ H) :
    ∃ W : Nat → Nat → St → Hp → Prop, (∃ m, W 0 m σ H) ∧ ∀ i m σ H, W i m σ H →
      ((Itd d ob kvs).stop i H ∧ D.nx σ H) ∨ ((Itd d ob kvs).go i H ∧ ∃ N : St → Hp → Prop, (∀ σ' H', N σ' H' → ∃ m', m' < m ∧ W (i + 1) m' σ' H') ∧ ∀ x H', (Itd d ob kvs).yld i H x H' → g x σ H' fun σ2 H2 => tb { D with nx := N, ct := N, bk := D.nx } σ2 H2) := by
  refine ⟨fun i m σ H => m = kvs.length - i ∧ i ≤ kvs.length ∧ Pv i σ H, ⟨kvs.length, by simp, Nat.zero_le _, h0⟩, ?_⟩
  rintro i m σ H ⟨rfl, hi, p⟩
  have q := hl i σ H hi p
  by_cases hlt : i < kvs.length
  · refine .inr ⟨⟨q, hlt⟩, Pv (i + 1), fun σ' H' p' => ⟨kvs.length - (i + 1), by omega, rfl, hlt, p'⟩, fun x H' y => ?_⟩
    obtain ⟨rfl, k, v, hk, rfl⟩ := y
    exact hs i k v σ H' hk p
  · have e : i = kvs.length := by omega
    subst e
    exact .inl ⟨⟨q, Nat.le_refl _⟩, hd σ H p⟩
section
variable {X : Cx}
end
section
variable {X : Cx}
end
end L2
set_option Elab.async false
set_option linter.all false
set_option maxRecDepth 100000
set_option maxHeartbeats 4000000
namespace L2
open PySem PySem.Spec PyProof.Rows
section
variable {X : Cx} {pins : List (Addr × Obj)} {σ : List (Option V)} {H : Hp} {s : Shared} {h' : Heap}
end
section
variable {X : Cx} {tg : Expr}
end
end L2
namespace L2
open PySem PySem.Spec PyProof.Rows
open PySem.AutoSeq1 (wpAny_loadPart')
open PySem.MeetsSeq PySem.MeetsSeq2 PySem.MeetsSeq3
section
variable {prog : Program} {w : World} {A : Around} {E : Value → Shared → Prop} {s : Shared}
end
section
variable {X : Cx}
end
end L2
set_option Elab.async false
set_option linter.all false
set_option maxRecDepth 100000
set_option maxHeartbeats 4000000
namespace L2
open PySem PySem.Spec PyProof.Rows
structure SetS (P : Program) (w : World) (h : Heap) (a : Addr) (es : Array (Int × Value)) (ep : Nat) (t : SetTable) (ks : List Str) : Prop where
  obj : ∃ o, h.get? a = some o ∧ o.ExactSet ∧ o.data = .set es ep t
  elems : ElemsOf (strKind P w) es.toList
  small : es.size < scanBound
  fits : t.fits es.size = true
  led : t.led = !w.params.followText "set-order"
  plain : es.size ≠ 0 → t.plain = false
  vals : StrsAre (es.toList.map (·.2)) ks
  once : ks.Nodup
theorem SetS.at {P : Program} {w : World} {h h' : Heap} {a : Addr} {es : Array (Int × Value)} {ep : Nat} {t : SetTable} {ks : List Str} (s : SetS P w h a es ep t ks) (k : ∀ o, h.get? a = some o → h'.get? a = some o) : SetS P w h' a es ep t ks := by
  obtain ⟨o, e, r⟩ := s.obj
  exact ⟨⟨o, k o e, r⟩, s.elems, s.small, s.fits, s.led, s.plain, s.vals, s.once⟩
theorem SetS.len {P : Program} {w : World} {h : Heap} {a : Addr} {es : Array (Int × Value)} {ep : Nat} {t : SetTable} {ks : List Str} (s : SetS P w h a es ep t ks) : es.size = ks.length := by
  have := s.vals.length
  rw [List.length_map, Array.length_toList] at this
  exact this
section
variable {P : Program} {w : World} {A : Around} {E : Value → Shared → Prop} {s : Shared}
end
end L2
set_option Elab.async false
set_option linter.all false
set_option maxRecDepth 100000
set_option maxHeartbeats 4000000
namespace L2
open PySem PySem.Spec PyProof.Rows
section
variable {P : Program} {w : World} {A : Around} {R : Result → Shared → Prop} {I S : Addr} {fp wr : List Addr} {G : Array GenState → Array GenState → Prop} {n : Nat} {Pv : Nat → Value → Prop} {St : Nat → Shared → Prop}
end
section
variable {P : Program} {w : World} {A : Around} {E : Value → Shared → Prop} {s : Shared}
end
end L2
set_option Elab.async false
set_option linter.all false
set_option maxRecDepth 100000
set_option maxHeartbeats 4000000
namespace L2
open PySem PySem.Spec PyProof.Rows
namespace SI
end SI
section
variable {P : Program} {w : World} {A : Around} {E : Value → Shared → Prop} {s : Shared}
end
section
variable {P : Program} {w : World} {A : Around} {E : Value → Shared → Prop}
end
end L2
set_option Elab.async false
set_option linter.all false
set_option maxRecDepth 100000
set_option maxHeartbeats 4000000
namespace L2
open PySem PySem.Spec PyProof.Rows
section
variable {P : Program} {w : World} {A : Around} {E : Value → Shared → Prop} {s : Shared}
end
section
variable {X : Cx}
end
end L2
set_option Elab.async false
set_option linter.all false
set_option maxRecDepth 100000
set_option maxHeartbeats 4000000
namespace L2
open PySem PySem.Spec PyProof.Rows
open PySem.AutoSeq1 (wpAny_loadPart')
section
variable {X : Cx}
end
end L2
set_option Elab.async false
set_option linter.all false
set_option maxRecDepth 100000
namespace L2
open PySem PySem.Spec PyProof.Rows
section
variable {M : Model} {A : Around} {E : Value → Shared → Prop} {s : Shared} {base : Heap} {env : Env} {outer : List Env} {L e : Addr} {oe : Obj} {vs : Array Value} {Q : Unit → Shared → Prop}
end
end L2
set_option Elab.async false
set_option linter.all false
set_option maxRecDepth 100000
namespace L2
open PySem PySem.Spec PyProof.Rows
def ExcO (fresh : Bool) (a C : Addr) (dx : Option Addr) : Heap → Prop := fun h =>
  ∃ o vs, h.get? a = some o ∧ o.cls = .ref C ∧ o.dict = dx ∧ o.data = .fields vs ∧ vs.size = 6 ∧ (fresh = true → vs[1]? = some .none)
abbrev xo (fresh : Bool) (a C : Addr) (dx : Option Addr) : HO := .ext (ExcO fresh a C dx)
def Fly (n : Nat) (a : Addr) (H : Hp) (h : Heap) : Prop := ∃ o vs T oT ts, h.get? a = some o ∧ o.data = .fields vs ∧ vs[1]? = some (.ref T) ∧ T ≠ a ∧ n ≤ T ∧ H T = none ∧ h.get? T = some oT ∧ oT.data = .fields ts ∧ ts[3]? = some .none
theorem Fly.mono {n m : Nat} {a : Addr} {H : Hp} {h : Heap} (x : Fly n a H h) (q : m ≤ n) : Fly m a H h := by
  obtain ⟨o, vs, T, oT, ts, e1, e2, e3, e4, e5, r⟩ := x
  exact ⟨o, vs, T, oT, ts, e1, e2, e3, e4, Nat.le_trans q e5, r⟩
section
variable {X : Cx} {pins : List (Addr × Obj)} {σ : St} {H : Hp} {s : Shared} {h' : Heap} {a C T : Addr} {dx : Option Addr} {f : Bool} {oe : Obj} {hd : Option Addr}
end
def CXR (P : Program) (w : World) : CXT := fun outer H s E e s' => ∃ a C dx H', e = .ref a ∧ s'.os = s.os ∧ AllBare s'.gens ∧ Un (frs outer) [] H H' s.heap s'.heap ∧ HOk P w H' s'.heap ∧
  H' a = some (xo false a C dx) ∧ Fly s.heap.objs.size a H' s'.heap ∧ E (.ref a) dx H'
section
variable {P : Program} {w : World} {K : PySem.W.Frag} {mg : Str → Option Value} {base : Heap} {N : List Str} {qual : Str} {scope : Scope} {fa : Addr} {cd : Value} {A : Around} {outer : List Env} {s₀ : Shared} {H₀ : Hp} {E : XK}
theorem CXR.after {X : Cx} {pins : List (Addr × Obj)} {σ : St} {H : Hp} {s s' : Shared} {e : Value} {E' : XK} (I : Inv X pins σ H s) (c : CXR X.prog X.w X.stack H s E' e s') :
    ∃ a C dx H', e = .ref a ∧ Inv X pins σ H' s' ∧ H' a = some (xo false a C dx) ∧ Fly s.heap.objs.size a H' s'.heap ∧ E' (.ref a) dx H' := by
  obtain ⟨a, C, dx, H', e, os, bare, un, hok, Ha, fl, hE⟩ := c
  exact ⟨a, C, dx, H', e, I.call' (ch := []) os un hok bare (fun b z => absurd z (by simp)), Ha, fl, hE⟩
end
end L2
set_option Elab.async false
set_option linter.all false
set_option maxRecDepth 100000
set_option maxHeartbeats 1000000
namespace L2
open PySem PySem.Spec PyProof.Rows PySem.W PySem.Builtin PySem.Builtin.ObjectAttr
abbrev veM : List Value := [.type "ValueError", .type "Exception", .type "BaseException", .type "object"]
structure XC (K : PySem.W.Frag) (C : Addr) (bm : List Value) : Prop where
  obj : ∃ nm q N bs sn sub ab col dd k0 k1 k2 k3 k5, K.lookup C = some (excClassObj nm q C N bs bm true sn sub ab col dd k0 k1 k2 k3 k5 "ValueError.__new__")
  tl : tailIn K veM bm = true
  rf : ∀ self : Value, refuseLoop self "__setattr__" bm = pure ()
  ga : findIn K (.ref C) "__getattribute__" = some (some (.builtin "BaseException.__getattribute__"))
  gh : findIn K (.ref C) "__getattr__" = some none
  sa : findIn K (.ref C) "__setattr__" = some (some (.builtin "object.__setattr__"))
  cl : findIn K (.ref C) "__class__" = some (some (.builtin "object.__class__"))
  gt : specialIn K (.builtin "object.__class__") "__get__" = some (some (.builtin "getset_descriptor.__get__"))
  tk : takesIn K (.builtin "object.__class__") = some true
namespace XC
variable {K : PySem.W.Frag} {C : Addr} {bm : List Value}
theorem cls (c : XC K C bm) : ∃ cd, clsIn K C = some cd ∧ cd.mro = .ref C :: bm ∧ cd.hasDict = true := by
  obtain ⟨nm, q, N, bs, sn, sub, ab, col, dd, k0, k1, k2, k3, k5, e⟩ := c.obj
  unfold clsIn
  rw [e]
  exact ⟨_, rfl, rfl, rfl⟩
theorem mro (c : XC K C bm) (v : Value) : mroIn K C v = some ((Value.ref C :: bm).contains v) := by
  obtain ⟨cd, e, m, _⟩ := c.cls
  unfold mroIn
  rw [e, Option.bind_some, m]
  rfl
theorem tail (c : XC K C bm) {h : Heap} (X : K.In h) : OwnTail h veM bm := tail_of_in X c.tl
theorem has (c : XC K C bm) {h : Heap} (X : K.In h) {T : String} {b : Bool} (e : veM.contains (.type T) = b) : mroIn K C (.type T) = some b := by
  rw [c.mro, List.contains_cons, (c.tail X).hasType e]
  rfl
end XC
section
variable {prog : Program} {w : World} {A : Around} {E : Value → Shared → Prop} {s : Shared} {K : PySem.W.Frag} {x C D fI : Addr} {bm bmD : List Value} {ox : Obj} {od : Option Obj} {name : Str} {v : Value}
end
end L2
set_option Elab.async false
set_option linter.all false
set_option maxRecDepth 100000
set_option maxHeartbeats 1000000
namespace L2
open PySem PySem.Spec PyProof.Rows PySem.W
section
variable {prog : Program} {w : World} {A : Around} {E : Value → Shared → Prop} {K : PySem.W.Frag} {x C D fI : Addr} {bm bmD : List Value} {ox : Obj} {hp : Heap} {g : Array GenState} {d : Drawn} {t : Nat} {os : OsState}
end
end L2
set_option Elab.async false
set_option linter.all false
set_option maxRecDepth 100000
set_option maxHeartbeats 1000000
namespace L2
open PySem PySem.Spec PyProof.Rows
section
variable {X : Cx} {pins : List (Addr × Obj)} {σ : St} {H : Hp} {s : Shared} {a C D dx : Addr} {bm bmD : List Value} {f : Bool} {od : Option Addr}
end
section
variable {X : Cx} {e : Expr} {n : Str} {pos : Pos} {ta : TE}
end
end L2
set_option Elab.async false
set_option linter.all false
set_option maxRecDepth 100000
set_option maxHeartbeats 1000000
namespace L2
open PySem PySem.Spec PyProof.Rows
section
variable {X : Cx} {k : Nat} {e : Expr} {te : TE} {a b : Str} {j j' : Nat} {p1 p2 p3 pos : Pos}
end
section
variable {X : Cx} {D : Addr} {x : Str} {p pos apos : Pos} {e : Expr} {es : List Expr} {t : TA}
end
section
variable {X : Cx} {o value : Expr} {n : Str} {pos pos' : Pos} {ta tv : TE}
end
end L2
set_option Elab.async false
set_option linter.all false
set_option maxRecDepth 100000
set_option maxHeartbeats 1000000
namespace L2
open PySem PySem.Spec PyProof.Rows
section
variable {X : Cx} {k : Nat} {C fI : Addr} {bm : List Value} {fd : FuncData} {ps : List Str} {sp : Sp} {x : Str} {p pos : Pos} {e : Expr} {es : List Expr} {t : TA}
end
abbrev Cx.suite (X : Cx) (a : Addr) : Cx := { X with A := X.A.mark (some (.ref a)), calm := false, xe := fun _ _ => False }
section
variable {X : Cx} {pins : List (Addr × Obj)} {σ : St} {H : Hp} {s : Shared} {a : Addr}
theorem Inv.suite (I : Inv X pins σ H s) (a : Addr) : Inv (X.suite a) pins σ H s :=
  ⟨⟨I.ok.mod, I.ok.kind, I.ok.glob, I.ok.blt, I.ok.above, I.ok.inj, I.ok.has, I.ok.cab, fun z => (by cases z), I.ok.frames, I.ok.stk, I.ok.exf, I.ok.bs, I.ok.bsz, I.ok.noex, I.ok.exfs, I.ok.funs, I.ok.frf⟩, I.os, I.bare, I.base, I.loc, I.cell, I.free, I.freeC, I.pin, I.hok, I.len⟩
end
section
variable {X : Cx} {k : Nat} {D f : Addr} {bmD : List Value} {fd : FuncData} {ps : List Str} {sp : Sp} {x y n dn : Str} {px pf pc pa pd ph pos : Pos} {e : Expr} {es : List Expr} {t : TA} {i j : Nat} {b₀ : Stmt} {suite : List Stmt} {ts : TS}
end
end L2
set_option Elab.async false
set_option linter.all false
set_option maxRecDepth 100000
set_option maxHeartbeats 1000000
namespace L2
open PySem PySem.Spec PyProof.Rows
end L2
set_option Elab.async false
set_option linter.all false
set_option maxRecDepth 100000
set_option maxHeartbeats 1000000
namespace HT
open PySem PySem.Spec PyProof.Rows
section
variable {prog : Program} {w : World} {A : Around} {E : Value → Shared → Prop} {s : Shared}
end
end HT
namespace L2
open PySem PySem.Spec PyProof.Rows
section
variable {X : Cx}
end
end L2
set_option Elab.async false
set_option linter.all false
set_option maxRecDepth 100000
set_option maxHeartbeats 1000000
namespace L2
open PySem PySem.Spec PyProof.Rows
section
variable {X : Cx} {o e : Expr} {es : List Expr} {to ta : TE} {t : TA} {T : String} {name n : Str} {id : String} {apos cpos pos : Pos} {r : V → List V → Hp → VK → Prop}
end
end L2
set_option Elab.async false
set_option linter.all false
set_option maxRecDepth 100000
set_option maxHeartbeats 1000000
namespace L2
open PySem PySem.Spec PyProof.Rows
section
variable {prog : Program} {w : World} {A : Around} {E : Value → Shared → Prop} {s : Shared}
end
section
variable {X : Cx} {pos : Pos}
end
section
variable {X : Cx}
end
section
open Builtin
end
end L2
set_option Elab.async false
set_option linter.all false
set_option maxRecDepth 100000
set_option maxHeartbeats 1000000
namespace L2
open PySem PySem.Spec PyProof.Rows
section
variable {X : Cx}
end
end L2
set_option Elab.async false
set_option linter.all false
set_option maxRecDepth 100000
set_option maxHeartbeats 1000000
namespace L2
open PySem PySem.Spec PyProof.Rows
section
variable {X : Cx}
end
end L2
set_option Elab.async false
set_option linter.all false
set_option maxRecDepth 100000
set_option maxHeartbeats 1000000
namespace HT
open PySem PySem.Spec PyProof.Rows
section
variable {prog : Program} {w : World} {A : Around} {E : Value → Shared → Prop} {s : Shared}
end
end HT
namespace L2
open PySem PySem.Spec PyProof.Rows
section
variable {X : Cx} {e : Expr} {lo hi : Option Expr} {st : Expr} {te : TE} {tl th tk : TO} {p2 pos : Pos}
end
end L2
set_option Elab.async false
set_option linter.all false
set_option maxRecDepth 100000
set_option maxHeartbeats 1000000
namespace L2
open PySem PySem.Spec PyProof.Rows
section
variable {X : Cx} {e : Expr} {lo hi : Option Expr} {st : Expr} {te : TE} {tl th tk : TO} {p2 pos : Pos}
end
end L2
set_option Elab.async false
set_option linter.all false
set_option maxRecDepth 100000
set_option maxHeartbeats 1000000
namespace L2
open PySem PySem.Spec PyProof.Rows
section
variable {X : Cx} {tg : Expr}
end
section
variable {X : Cx} {e : Expr} {lo hi : Option Expr} {st : Expr} {te : TE} {tl th tk : TO} {p2 pos : Pos}
end
section
variable {X : Cx}
theorem op_mulS : OpR X (binaryOp .Mult) (fun x y H Q => ∃ (z : Str) (n : Int), x = .str z ∧ y = .int n ∧ 0 ≤ n ∧ n ≤ 1000 ∧ z.length ≤ 1000 ∧ Q (.str (Txt.mul z n)) H) := by
  intro pins s σ H x y v u Q I rx ry h
  obtain ⟨z, n, rfl, rfl, h0, h1, h2, q⟩ := h
  obtain ⟨t, rfl⟩ := rx
  obtain ⟨t', rfl⟩ := ry
  refine SB.mul ⟨?_, ?_, ?_⟩ fun t' k => ⟨.str _, H, I.tok k, ⟨t', rfl⟩, q⟩
  · have a : ¬ n < -(2 ^ 63 : Int) := by omega
    have b : ¬ n ≥ 2 ^ 63 := by omega
    simp only [a, b, decide_false, Bool.or_self]
  · intro a b c
    have e : (1000 : Int) ≤ (2 ^ 63 - 1) / n := by
      rw [Int.le_ediv_iff_mul_le (by omega)]
      omega
    omega
  · intro a b
    have h3 : z.length * n.toNat ≤ 1000 * 1000 := Nat.mul_le_mul h2 (by omega)
    have h4 : (1000 * 1000 : Nat) ≤ sizeLine := by decide
    exact decide_eq_false (by omega)
def rMinI (K : PySem.W.Frag) : List V → Hp → VK → Prop := fun xs H Q => ∃ (a : Addr) (ns : List Int), xs = [.ref a] ∧ SqL K H a (ns.map V.int) ∧ ns ≠ [] ∧ ∀ m : Int, m ∈ ns → Q (.int m) H
theorem call_minK (K : PySem.W.Frag) (hc : X.calm = true) (hK : X.K = K := by rfl) : CallR X (.builtin "min") (rMinI K) := by
  subst hK
  intro pins s σ H xs us Q I r h
  obtain ⟨a, ns, rfl, hq, hne, q⟩ := h
  obtain ⟨u, rfl, ru⟩ := vals1 r
  cases ru
  obtain ⟨its, rv, p, _⟩ := I.list hq
  have hi : IntsAre its ns := intsAre_of rv
  obtain ⟨xs, e⟩ := hi.allInts.items
  have hns : ns = xs.toList.map (·.1) := by rw [← hi.numsOf, ← nums_intItems, ← e]
  have hsz : 0 < xs.size := by
    rcases Nat.eq_zero_or_pos xs.size with z | z
    · have : xs.toList = [] := List.eq_nil_of_length_eq_zero (by rw [Array.length_toList]; exact z)
      exact absurd (by rw [hns, this]; rfl) hne
    · exact z
  have hl := p.isList
  rw [e] at hl
  refine min_intList (I.ok.hd hc) hl hsz fun v h' tk hv hk => ?_
  obtain ⟨t, rfl⟩ := intItems_at hv
  obtain ⟨h1, h2⟩ := argBest_lt (numAt xs) (xs.size - 1)
  have na : ∀ j, j < xs.size → ns[j]? = some (numAt xs j) := fun j hj => by
    rw [hns, List.getElem?_map, Array.getElem?_toList, numAt, Array.getElem?_eq_getElem hj]
    rfl
  exact ⟨.int _, H, I.kept hk, ⟨t, rfl⟩, q _ (List.mem_of_getElem? (na _ (by omega)))⟩
end
end L2
set_option Elab.async false
set_option linter.all false
set_option maxRecDepth 100000
set_option maxHeartbeats 4000000
namespace L2
open PySem PySem.Spec PyProof.Rows
theorem pt_truthQ {X : Cx} {a : Expr} {ta : TE} (K : PySem.W.Frag) (ha : PE X a ta) (he : ∀ whole, isTrue a X.env whole = (do let v ← whole; standAt a.pos; holding [v] (truthy v))) (hK : X.K = K := by rfl) :
    PT X a (fun σ H Q => ta σ H fun x H' => ∃ k, TruV K x H' k ∧ Q k H') := by subst hK; exact pt_truth ha he
section
variable {prog : Program} {w : World} {A : Around} {E : Value → Shared → Prop} {s : Shared}
end
end L2
set_option Elab.async false
set_option linter.all false
set_option maxRecDepth 100000
set_option maxHeartbeats 1000000
namespace L2
open PySem PySem.Spec PyProof.Rows
structure LamScope (ps frn : List Str) (scope : Scope) : Prop where
  kind : scope.kind = .function
  co : scope.isCoroutine = false
  gen : scope.isGenerator = false
  nocell : ∀ x ∈ scope.names, x.2 ≠ .cell
  par : ∀ x ∈ ps, scope.names.lookup x = some .local
  free : ∀ x ∈ frn, scope.names.lookup x = some .free
  only : ∀ x, scope.names.lookup x = some .free → x ∈ frn
  nd : (ps ++ frn).Nodup
structure LamCells (h : Heap) (cl : List (Str × Addr)) (frn : List Str) (fvs : List V) : Prop where
  inj : ∀ x y c, cl.lookup x = some c → cl.lookup y = some c → x = y
  cell : ∀ x c, cl.lookup x = some c → ∃ v, h.IsCell c v
  vals : Paired (fun x v => ∃ c u, cl.lookup x = some c ∧ h.IsCell c (some u) ∧ RelV v u) frn fvs
def cxL (P : Program) (w : World) (K : PySem.W.Frag) (mg : Str → Option Value) (base : Heap) (N : List Str) (qual : Str) (scope : Scope) (f : Addr) (cd : Value) (cl : List (Str × Addr)) (A : Around) (outer : List Env) (s : Shared) (H : Hp) : Cx where
  prog := P
  w := w
  K := K
  mg := mg
  base := base
  A := A.deeper (PySem.W.envX qual scope s.heap.objs.size f cd cl)
  N := N
  s₀ := s
  H₀ := H
  env := PySem.W.envX qual scope s.heap.objs.size f cd cl
  outer := outer
  stack := PySem.W.envX qual scope s.heap.objs.size f cd cl :: outer
  ex := []
  calm := true
  fn := fun _ => false
  pn := []
  xe := fun _ _ => False
theorem zip_rev {ps : List Str} {us : List Value} (nd : ps.Nodup) (hl : ps.length ≤ us.length) {i : Nat} {y : Str} {u : Value} (hp : ps[i]? = some y) (hu : us[i]? = some u) : (ps.zip us).reverse.lookup y = some u := by
  have hm : (y, u) ∈ (ps.zip us).reverse := by
    rw [List.mem_reverse]
    refine List.mem_of_getElem? (i := i) ?_
    rw [List.getElem?_zip_eq_some]
    exact ⟨hp, hu⟩
  have hn : ((ps.zip us).reverse.map (·.1)).Nodup := by
    rw [List.map_reverse]
    refine (List.reverse_perm _).nodup_iff.mpr ?_
    rw [List.map_fst_zip hl]
    exact nd
  generalize (ps.zip us).reverse = l at hm hn
  induction l with
  | nil => cases hm
  | cons p l ih =>
    rw [List.map_cons, List.nodup_cons] at hn
    rcases List.mem_cons.mp hm with e | e
    · subst e; exact List.lookup_cons_self
    · have : y ≠ p.1 := fun z => hn.1 (by rw [← z]; exact List.mem_map.mpr ⟨_, e, rfl⟩)
      obtain ⟨a, b⟩ := p
      rw [List.lookup_cons, show (y == a) = false from beq_false_of_ne this]
      exact ih e hn.2
theorem paired_get {α β : Type} {F : α → β → Prop} : ∀ {l : List α} {m : List β} {i : Nat} {a : α}, Paired F l m → l[i]? = some a → ∃ b, m[i]? = some b ∧ F a b
  | _, _, _, _, .nil, h => by simp at h
  | _, _, 0, _, .cons r _, h => by simp at h; subst h; exact ⟨_, rfl, r⟩
  | _, _, i + 1, _, .cons _ t, h => by
    simp only [List.getElem?_cons_succ] at h ⊢
    exact paired_get t h
theorem inv_lam {P : Program} {w : World} {K : PySem.W.Frag} {mg : Str → Option Value} {base : Heap} {ps frn : List Str} {qual : Str} {scope : Scope} {f : Addr} {cd : Value} {cl : List (Str × Addr)} {A : Around} {outer : List Env} {s : Shared} {H : Hp} {us : List Value} {vs fvs : List V} {h1 : Heap} {fo : Obj} {tk : Nat}
    (S : LamScope ps frn scope) (hd : A.handled = none) (e0 : Env0 P w K mg base A outer s H) (hl : vs.length = ps.length) (r : Vals vs us) (C : LamCells base cl frn fvs)
    (hns : h1.Ns s.heap.objs.size fun x => (ps.zip us).reverse.lookup x) (hsb : Heap.SameBut s.heap.objs.size (s.heap.push fo) h1) :
    Inv (cxL P w K mg base (ps ++ frn) qual scope f cd cl A outer s H) [] (vs.map some ++ fvs.map some) H { s with heap := h1, toks := tk } := by
  have hk : ∀ b o, s.heap.get? b = some o → h1.get? b = some o := fun b o e => hsb.extBut b o (Nat.ne_of_lt (Heap.lt_size e)) (Heap.get?_push_of_some _ e)
  have hkb : ∀ b o, base.get? b = some o → h1.get? b = some o := fun b o e => hk b o (e0.bs b o e).1
  have noA : ∀ b : Addr, b ∉ (cxL P w K mg base (ps ++ frn) qual scope f cd cl A outer s H).ex := fun b z => absurd (show b ∈ ([] : List Addr) from z) (by simp)
  have lf : frn.length = fvs.length := Paired.length C.vals
  refine ⟨⟨e0.mod, S.kind, rfl, rfl, Nat.le_refl _, C.inj, fun y hy => ?_, fun y c z => (nomatch z), fun _ => hd, Around.frames_deeper e0.frames, .inr ⟨rfl, rfl⟩, fun b z => absurd z (noA b), e0.bs, e0.bsz, fun b _ _ => noA b, fun b z => absurd z (noA b), e0.funs, e0.frf⟩,
    rfl, e0.bare, Un.kept hk, ⟨_, hns, fun i y v h1' h2 h3 => ?_⟩, fun y c h => ?_, e0.hok.fresh (Nat.le_refl _), fun y c h => ?_, fun p hp => absurd (show p ∈ ([] : List (Addr × Obj)) from hp) (by simp), e0.hok.kept hk, ?_⟩
  · have hy : scope.names.lookup y = some .cell ∨ scope.names.lookup y = some .free := hy
    rcases hy with hy | hy
    · exact absurd rfl (S.nocell _ (PySem.mem_of_lookup hy))
    · have hm := S.only y hy
      obtain ⟨i, hi⟩ := List.getElem?_of_mem hm
      obtain ⟨v, _, c, u, hc, _⟩ := paired_get C.vals hi
      exact ⟨c, hc⟩
  · have h1'' : (ps ++ frn)[i]? = some y := h1'
    by_cases hi : i < ps.length
    · rw [List.getElem?_append_left hi] at h1''
      rw [List.getElem?_append_left (by rw [List.length_map]; omega), List.getElem?_map] at h2
      obtain ⟨v', hv', e⟩ := Option.map_eq_some_iff.mp h2
      have e' : v' = v := Option.some.inj e
      subst e'
      obtain ⟨u, hu, rv⟩ := r.get hv'
      have ndP : ps.Nodup := (List.nodup_append.mp S.nd).1
      exact ⟨u, rv, .inl ⟨S.par y (List.mem_of_getElem? h1''), zip_rev ndP (by rw [← hl, r.length]; exact Nat.le_refl _) h1'' hu⟩⟩
    · rw [List.getElem?_append_right (by omega)] at h1''
      rw [List.getElem?_append_right (by rw [List.length_map]; omega), List.length_map, hl, List.getElem?_map] at h2
      obtain ⟨v', hv', e⟩ := Option.map_eq_some_iff.mp h2
      have e' : v' = v := Option.some.inj e
      subst e'
      obtain ⟨v2, hv2, c, u, hc, ⟨o, ho, hd'⟩, rv⟩ := paired_get C.vals h1''
      rw [hv'] at hv2
      cases hv2
      exact ⟨u, rv, .inr ⟨.inr (S.free y (List.mem_of_getElem? h1'')), c, hc, o, hkb _ _ ho, hd'⟩⟩
  · obtain ⟨v, o, ho, hd'⟩ := C.cell y c h
    exact ⟨v, o, hkb _ _ ho, hd'⟩
  · obtain ⟨v, o, ho, hd'⟩ := C.cell y c h
    exact (e0.bs c o ho).2
  · show _ = (ps ++ frn).length
    rw [List.length_append, List.length_map, List.length_map, List.length_append, hl, lf]
theorem fn_lam {P : Program} {w : World} {K : PySem.W.Frag} {mg : Str → Option Value} {base : Heap} {k : Nat} {f c' : Addr} {name qual : Str} {params : Arguments} {body : Expr} {scope : Scope} {cl : List (Str × Addr)} {pm ctv : Value} {ps frn : List Str} {fvs : List V} {sp : Sp}
    (ho : base.get? f = some (PySem.W.kla_obj name qual params body scope cl pm c' ctv)) (hcr : base.CodeRec (.ref c') qual) (S : LamScope ps frn scope) (C : LamCells base cl frn fvs) (len : ∀ vs H Q E, sp vs H Q E → vs.length = ps.length)
    (hbody : ∀ (A : Around) (outer : List Env) (s : Shared) (H : Hp) (vs : List V) (Q : VK) (E : XK), Room k (A.deeper (PySem.W.envX qual scope s.heap.objs.size f (.ref c') cl)) → sp vs H Q E →
      ∃ t, PE (cxL P w K mg base (ps ++ frn) qual scope f (.ref c') cl A outer s H) body t ∧ t (vs.map some ++ fvs.map some) H Q) :
    FnOk P w K mg base CX0 (k + 1) f (PySem.W.kla_fn name qual params body scope cl pm (.ref c') ctv) ps sp := by
  refine ⟨len, fun A outer s H args us vs Q E hr e0 hb r hsp => ?_⟩
  have hl := len _ _ _ _ hsp
  have lim : s.heap.NoLimit := e0.mod.nolimit.keeps fun b o e => (e0.bs b o e).1
  have hcr' : s.heap.CodeRec (.ref c') qual := by
    obtain ⟨c, oc, vs', tq, hc, hoc, hdc, hq⟩ := hcr
    exact ⟨c, oc, vs', tq, hc, (e0.bs _ _ hoc).1, hdc, hq⟩
  refine PySem.W.kla_callFunE hr.depth (e0.bs _ _ ho).1 rfl S.co S.gen rfl hcr' (hb _ _ _ _ ?_)
  have hloc : ∀ y ∈ ps.zip us, scope.names.lookup y.1 = some .local := fun ⟨n, v⟩ hy => S.par n (List.of_mem_zip hy).1
  refine wpAny_newFunctionEnv S.nocell hloc (fun h₁ hns hsb => ⟨lim.fresh _ hsb, ?_⟩) S.kind
  obtain ⟨t, ht, hq⟩ := hbody A outer s H vs Q E (hr.deeper _) hsp
  have I : Inv (cxL P w K mg base (ps ++ frn) qual scope f (.ref c') cl A outer s H) [] (vs.map some ++ fvs.map some) H { s with heap := h₁, toks := s.toks + (ps.zip us).length } := inv_lam S hr.hd e0 hl r C hns hsb
  refine PySem.W.kla_codeExpr (wpAny_mono (ht [] _ _ H _ I hq) (fun v s' hs => ?_) fun e s' hs => hs.elim)
  obtain ⟨x, H', J, rv, q⟩ := hs
  exact ⟨x, H', J.os, J.bare, J.base, J.hok, rv, q⟩
section
variable {X : Cx} {x : Str} {p pos : Pos} {e : Expr} {es : List Expr} {t : TA} {k : Nat} {f : Addr} {fd : FuncData} {ps : List Str} {sp : Sp}
def tCallV (i : Nat) (f : Addr) (sp : Sp) (t : TA) : TE := fun σ H Q => σ[i]? = some (some (.ref f)) ∧ t σ H fun vs H1 => sp vs H1 Q E0
theorem pe_callV (F : FnOk X.prog X.w X.K X.mg X.base CX0 k f fd ps sp) {i : Nat} {o : Obj} (ho : X.base.get? f = some o) (hof : o.data = .func fd) (hr : Room k X.A) (hb : ∀ us : List Value, us.length = ps.length → bindArgs fd ⟨us, []⟩ = pure (ps.zip us))
    (hN : X.N[i]? = some x) (hv : Vis X.env.scope x) (ha : PA X (e :: es) t) (hdb : (x == ("__debug__" : Str)) = false := by decide) (hcd : (x == ("__classdict__" : Str)) = false := by decide)
    (he : starEach (e :: es) X.env = (false, eval e X.env) :: starEach es X.env := by rfl) (hpl : (backTo pos (starEach es X.env)).any (·.1) = false := by rfl) :
    PE X (.Call (.Name x p) (e :: es) [] pos) (tCallV i f sp t) := by
  intro pins s σ H Q I h
  obtain ⟨hi, h⟩ := h
  obtain ⟨m, hn, hl⟩ := I.loc
  obtain ⟨u, r, l⟩ := hl i x (.ref f) hN hi hv
  obtain rfl : u = Value.ref f := r
  have fin : wpAny (model X.prog X.w) X.A (callWith pos (.ref f) [] (backTo pos (starEach (e :: es) X.env)) []) (EP X pins σ Q) X.xe s := by
    have h0 : wpAny (model X.prog X.w) X.A (spliced (backTo pos (starEach (e :: es) X.env))) (fun us s₁ => s₁.heap.get? f = some o ∧ wpAny (model X.prog X.w) X.A (call (.ref f) ([] ++ us)) (EP X pins σ Q) X.xe s₁) X.xe s := by
      refine thn (ha pos pins s σ H _ I h) fun us s1 ⟨vs, H1, I1, r, q⟩ => ⟨I1.bk _ _ ho, ?_⟩
      exact run_fn (ds := []) (dvs := []) F hr (Binds.all hb) .nil pass0 I1 r (by rw [List.append_nil]; exact q)
    rw [he] at h0 ⊢
    refine PySem.W.callWith_of (P := fun h => h.get? f = some o) ?_ (fun h hf => ⟨.frame, .inl rfl, (PySem.W.Looks.ld (part := none) hf).andThen ?_⟩) (Calls.evalArgs_plain h0)
    · show ((false || (backTo pos (starEach es X.env)).any (·.1)) || false) = false
      rw [hpl]; rfl
    · rw [hof]
      exact .now
  rcases l with ⟨hk, hm⟩ | ⟨hk, c, hc, hcell⟩
  · exact wpAny_Call_Name_kw (wpAny_Name (wpAny_loadName_local I.ok.kind hk hn hm fin) hdb)
  · rcases hk with hk | hk
    · exact wpAny_Call_Name_kw (wpAny_Name (wpAny_loadName_cell I.ok.kind hk hc hcell fin) hdb)
    · exact wpAny_Call_Name_kw (wpAny_Name (wpAny_loadName_free I.ok.kind hk hc hcell fin hcd) hdb)
end
end L2
set_option Elab.async false
set_option linter.all false
set_option maxRecDepth 100000
set_option maxHeartbeats 1000000
namespace L2
open PySem PySem.Spec PyProof.Rows
def fnO (f : Addr) (o : Obj) : HO := .ext fun h => h.get? f = some o
def cdO (c : Addr) (qual : Str) : HO := .ext fun h => h.CodeRec (.ref c) qual
section
variable {P : Program} {w : World} {H : Hp} {h : Heap}
theorem fnO_ok {f : Addr} {o : Obj} (e : h.get? f = some o) : ObjOk P w H h f (fnO f o) :=
  ⟨e, ⟨o, e⟩, fun h1 h2 q k => k o q⟩
theorem cdO_ok {c : Addr} {qual : Str} (e : h.CodeRec (.ref c) qual) : ObjOk P w H h c (cdO c qual) := by
  refine ⟨e, ?_, fun h1 h2 q k => ?_⟩
  · obtain ⟨c', o, vs, t, e1, e2, _⟩ := e
    cases e1
    exact ⟨o, e2⟩
  · obtain ⟨c', o, vs, t, e1, e2, r⟩ := q
    cases e1
    exact ⟨c, o, vs, t, rfl, k o e2, r⟩
end
def Tab (H : Hp) (T : Addr) (L : List (Pos × Str)) : Prop :=
  ∃ ps : Array Value, H T = some (.tbl ps) ∧ TriplesOk ps.toList ∧ ∀ p ∈ L, codeAmong p.1 ps.toList = none ∨ ∃ c, codeAmong p.1 ps.toList = some (.ref c) ∧ H c = some (cdO c p.2)
theorem Tab.same {H H' : Hp} {T : Addr} {L : List (Pos × Str)} (x : Tab H T L) (s : Same H H') : Tab H' T L := by
  obtain ⟨ps, h1, h2, h3⟩ := x
  refine ⟨ps, s _ _ h1, h2, fun p hp => ?_⟩
  rcases h3 p hp with z | ⟨c, z, q⟩
  · exact .inl z
  · exact .inr ⟨c, z, s _ _ q⟩
theorem Tab.kb {H H' : Hp} {T d : Addr} {L : List (Pos × Str)} (x : Tab H T L) (s : KB d H H') (hd : ∀ ps, H d ≠ some (.tbl ps)) (hx : ∀ φ, H d ≠ some (.ext φ)) : Tab H' T L := by
  obtain ⟨ps, h1, h2, h3⟩ := x
  refine ⟨ps, s _ _ h1 (fun e => hd ps (e ▸ h1)), h2, fun p hp => ?_⟩
  rcases h3 p hp with z | ⟨c, z, q⟩
  · exact .inl z
  · exact .inr ⟨c, z, s _ _ q fun e => hx _ (e ▸ q)⟩
theorem among_snoc {p q : Pos} {c : Value} : ∀ (l : List Value), TriplesOk l → ∀ d, codeAmong p (l ++ [rawInt q.line, rawInt q.col, c]) = some d → codeAmong p l = some d ∨ (codeAmong p l = none ∧ p.line = q.line ∧ p.col = q.col ∧ d = c) := by
  intro l
  fun_induction TriplesOk l with
  | case1 =>
    intro _ d h
    simp only [List.nil_append, codeAmong, rawInt] at h
    split at h
    · rename_i hc
      simp at hc
      cases h
      exact .inr ⟨rfl, by omega, by omega, rfl⟩
    · cases h
  | case2 a t b u x rest ih =>
    intro hl d h
    simp only [List.cons_append, codeAmong] at h ⊢
    split at h
    · rename_i hc; rw [if_pos hc]; exact .inl h
    · rename_i hc; rw [if_neg hc]; exact ih hl d h
  | case3 l h1 h2 => intro h; exact h.elim
def Apart (L : List (Pos × Str)) : Prop := ∀ p ∈ L, ∀ q ∈ L, p.1.line = q.1.line → p.1.col = q.1.col → p = q
theorem Tab.grown {H H' : Hp} {T c' : Addr} {L : List (Pos × Str)} {ps : Array Value} {q : Pos × Str} (hq : q ∈ L) (ap : Apart L) (h2 : TriplesOk ps.toList) (h3 : ∀ p ∈ L, codeAmong p.1 ps.toList = none ∨ ∃ c, codeAmong p.1 ps.toList = some (.ref c) ∧ H c = some (cdO c p.2))
    (hT : H' T = some (.tbl (ps ++ #[rawInt q.1.line, rawInt q.1.col, .ref c']))) (hc : H' c' = some (cdO c' q.2)) (k : ∀ b φ, H b = some (.ext φ) → H' b = some (.ext φ)) : Tab H' T L := by
  have e : (ps ++ #[rawInt q.1.line, rawInt q.1.col, .ref c']).toList = ps.toList ++ [rawInt q.1.line, rawInt q.1.col, .ref c'] := by simp
  refine ⟨_, hT, by rw [e]; exact TriplesOk_snoc _ _ _ _ h2, fun p hp => ?_⟩
  rw [e]
  cases z : codeAmong p.1 (ps.toList ++ [rawInt q.1.line, rawInt q.1.col, .ref c']) with
  | none => exact .inl rfl
  | some d =>
    rcases among_snoc _ h2 d z with y | ⟨_, y1, y2, y3⟩
    · rcases h3 p hp with n | ⟨c, n, r⟩
      · rw [n] at y; cases y
      · rw [n] at y; cases y
        exact .inr ⟨c, rfl, k _ _ r⟩
    · have := ap p hp q hq y1 y2
      subst this
      subst y3
      exact .inr ⟨c', rfl, hc⟩
section
variable {X : Cx} {pos : Pos} {params : Arguments} {body : Expr} {scope : Scope} {c T : Addr} {clos : List (Str × Addr)} {L : List (Pos × Str)} {bm : Addr} {ob : Obj}
abbrev lamO (X : Cx) (params : Arguments) (body : Expr) (scope : Scope) (clos : List (Str × Addr)) (c' : Addr) (ctv : Value) : Obj := PySem.W.kla_obj "<lambda>" (X.env.qual ++ "<lambda>") params body scope clos ((X.mg "__name__").getD .none) c' ctv
def tLam (X : Cx) (params : Arguments) (body : Expr) (scope : Scope) (clos : List (Str × Addr)) (T : Addr) (L : List (Pos × Str)) : TE := fun σ H Q =>
  Tab H T L ∧ ∀ f c' ctv H', H f = none → H' f = some (fnO f (lamO X params body scope clos c' ctv)) → H' c' = some (cdO c' (X.env.qual ++ "<lambda>")) → Tab H' T L → KB T H H' → Q (.ref f) H'
def BltAt (mg : Str → Option Value) (base : Heap) : Prop :=
  ∃ bm o, mg "__builtins__" = some (.ref bm) ∧ bm ≠ builtinsNs ∧ base.get? bm = some o ∧ o.cls = .type "module" ∧ o.dict = some builtinsNs ∧ o.data = .plain
theorem pe_lam (hcode : X.env.code = .ref c) (C : PySem.W.CodeHd X.base c T) (hB : BltAt X.mg X.base) (hcl : closureFor scope X.env = pure clos) (hdef : defaultsOf params X.env = ([], [])) (hL : (pos, X.env.qual ++ "<lambda>") ∈ L) (ap : Apart L) (hfs : X.ex = []) :
    PE X (.Lambda params body scope pos) (tLam X params body scope clos T L) := by
  intro pins s σ H Q I ⟨⟨ps, hT, ht, htab⟩, h⟩
  refine PySem.W.kla_eval hdef ?_
  have hTo : s.heap.get? T = some (PySem.W.tabObj ps) := I.hok T _ hT
  have hg : s.heap.Ns mainGlobals X.mg := I.ok.mod.glob.keeps I.bk
  have hgT : mainGlobals ≠ T := fun q => by
    obtain ⟨o, es, ep, e, hd, _⟩ := hg
    rw [q, hTo] at e; cases e; cases hd
  have hBA : s.heap.BuiltinsAt X.mg T := by
    obtain ⟨bm, o, h1, h2, h3, h4, h5, h6⟩ := hB
    refine ⟨bm, o, h1, h2, fun q => ?_, fun q => ?_, I.bk _ _ h3, h4, h5, h6⟩
    · obtain ⟨o', es, ep, e, hd, _⟩ := I.ok.mod.glob
      rw [q, e] at h3; cases h3; rw [hd] at h6; cases h6
    · have := I.bk _ _ h3
      rw [q, hTo] at this; cases this; cases h4
  have hCs := C.keeps I.bk
  rcases htab _ hL with hn | ⟨c', hc', hHc⟩
  · refine PySem.W.kla_makeFunction (mg := X.mg) hcl I.ok.glob hg hcode hCs hTo ht hn hgT hBA fun c' ctv h' tk hx hge hlt hrec htb => ?_
    have nc : H c' = none := I.hok.fresh hge
    have szh : s.heap.objs.size ≤ h'.objs.size := Nat.le_of_lt (Nat.lt_of_le_of_lt hge hlt)
    have nf : H h'.objs.size = none := I.hok.fresh szh
    have fc : h'.objs.size ≠ c' := Nat.ne_of_gt hlt
    have Tc : T ≠ c' := ne_of_none hT nc
    have Tf : T ≠ h'.objs.size := ne_of_none hT nf
    have fT := Ne.symm Tf
    have cT := Ne.symm Tc
    have keep : ∀ b o, b ≠ T → s.heap.get? b = some o → (h'.push (lamO X params body scope clos c' ctv)).get? b = some o := fun b o hb e => Heap.get?_push_of_some _ (hx b o hb e)
    let H' : Hp := upd (upd (upd H T (.tbl (ps ++ #[rawInt pos.line, rawInt pos.col, .ref c']))) c' (cdO c' (X.env.qual ++ "<lambda>"))) h'.objs.size (fnO h'.objs.size (lamO X params body scope clos c' ctv))
    have eT : H' T = some (.tbl (ps ++ #[rawInt pos.line, rawInt pos.col, .ref c'])) := by show upd _ _ _ _ = _; rw [upd_ne Tf, upd_ne Tc, upd_same]
    have ec : H' c' = some (cdO c' (X.env.qual ++ "<lambda>")) := by show upd _ _ _ _ = _; rw [upd_ne fc.symm, upd_same]
    have ef : H' h'.objs.size = some (fnO h'.objs.size (lamO X params body scope clos c' ctv)) := upd_same
    have eo : ∀ b, b ≠ T → b ≠ c' → b ≠ h'.objs.size → H' b = H b := fun b h1 h2 h3 => by show upd _ _ _ _ = _; rw [upd_ne h3, upd_ne h2, upd_ne h1]
    have kb : KB T H H' := fun b o e hb => by rw [eo b hb (ne_of_none e nc) (ne_of_none e nf)]; exact e
    have hnew : ∀ b o, s.heap.get? b = some o → b ≠ c' ∧ b ≠ h'.objs.size := fun b o e => ⟨Nat.ne_of_lt (Nat.lt_of_lt_of_le (Heap.lt_size e) hge), Nat.ne_of_lt (Nat.lt_of_lt_of_le (Heap.lt_size e) szh)⟩
    have tabOk' := Tab.grown (H := H) (H' := H') hL ap ht htab eT ec fun b φ e => kb b _ e fun z => by rw [z, hT] at e; cases e
    have hok' : HOk X.prog X.w H' (h'.push (lamO X params body scope clos c' ctv)) := fun b u e => by
      by_cases b1 : b = T
      · subst b1
        rw [eT] at e; cases e
        exact Heap.get?_push_of_some _ htb
      by_cases b2 : b = c'
      · subst b2
        rw [ec] at e; cases e
        exact cdO_ok (hrec.push _)
      by_cases b3 : b = h'.objs.size
      · subst b3
        rw [ef] at e; cases e
        exact fnO_ok (Heap.get?_push_size _ rfl)
      rw [eo b b1 b2 b3] at e
      refine (I.hok b u e).stay (fun d v hd q => keep d v ?_ q) (fun d q => kb d _ q ?_) fun d xs q => kb d _ q ?_
      · rintro rfl
        rcases hd with z | z
        · exact b1 z.symm
        · rw [hT] at z; cases z
      · rintro rfl; rw [hT] at q; cases q
      · rintro rfl; rw [hT] at q; cases q
    refine ⟨.ref h'.objs.size, H', ?_, rfl, h _ _ _ _ nf ef ec tabOk' kb⟩
    have ne_T : ∀ b, H b = none → b ≠ T := fun b n z => by rw [z, hT] at n; cases n
    refine I.un ⟨fun b o e n _ _ => keep b o (ne_T b n) e, fun b o e n _ _ => ⟨o.slots, keep b o (ne_T b n) e⟩, fun b o e n _ => by rw [eo b (ne_T b n) (hnew b o e).1 (hnew b o e).2]; exact n, fun b o e _ => ?_, fun b xs e => kb b _ e fun z => ?_, fun b o u e => kb b _ e fun z => ?_, fun b qs e => ?_⟩ hok'
    · by_cases hb : b = T
      · subst hb; exact ⟨_, Heap.get?_push_of_some _ htb⟩
      · exact ⟨o, keep b o hb e⟩
    · rw [z, hT] at e; cases e
    · rw [z, hT] at e; cases e
    · by_cases hb : b = T
      · subst hb
        rw [hT] at e; cases e
        exact ⟨_, eT⟩
      · exact ⟨#[], by rw [kb b _ e hb]; simp⟩
  · refine PySem.W.kla_makeFunctionHit (mg := X.mg) hcl I.ok.glob hg hcode hCs hTo ht hc' hBA fun ctv h' tk hk hsz => ?_
    have nf : H h'.objs.size = none := I.hok.fresh hsz
    have keep : ∀ b o, s.heap.get? b = some o → (h'.push (lamO X params body scope clos c' ctv)).get? b = some o := fun b o e => Heap.get?_push_of_some _ (hk b o e)
    have kb : Same H (upd H h'.objs.size (fnO h'.objs.size (lamO X params body scope clos c' ctv))) := fun b o e => by rw [upd_ne (ne_of_none e nf)]; exact e
    refine ⟨.ref h'.objs.size, upd H h'.objs.size (fnO h'.objs.size (lamO X params body scope clos c' ctv)), I.laid keep hsz (fnO_ok (Heap.get?_push_size _ rfl)), rfl, h _ c' ctv _ nf upd_same (kb _ _ hHc) (Tab.same ⟨ps, hT, ht, htab⟩ kb) fun b o e _ => kb b o e⟩
end
end L2
set_option Elab.async false
set_option linter.all false
set_option maxRecDepth 100000
set_option maxHeartbeats 1000000
namespace L2
open PySem PySem.Spec PyProof.Rows
def untr (D : List Addr) (H : Hp) : Hp := fun b => if b ∈ D then none else H b
def retr (D : List Addr) (H H2 : Hp) : Hp := fun b => if b ∈ D then H b else H2 b
theorem untr_in {D : List Addr} {H : Hp} {b : Addr} (h : b ∈ D) : untr D H b = none := if_pos h
theorem untr_out {D : List Addr} {H : Hp} {b : Addr} (h : b ∉ D) : untr D H b = H b := if_neg h
theorem retr_in {D : List Addr} {H H2 : Hp} {b : Addr} (h : b ∈ D) : retr D H H2 b = H b := if_pos h
theorem retr_out {D : List Addr} {H H2 : Hp} {b : Addr} (h : b ∉ D) : retr D H H2 b = H2 b := if_neg h
def wide (h : Heap) (H : Hp) (fs : List Addr) : Heap := PySem.W.hideAll (hidT h H) fs
theorem wide_size (h : Heap) (H : Hp) (fs : List Addr) : (wide h H fs).objs.size = h.objs.size := (PySem.W.hideAll_size _ _).trans (hidT_size _ _)
theorem wide_get {h : Heap} {H : Hp} {fs : List Addr} {b : Addr} {o : Obj} (e : h.get? b = some o) (n : H b = none) (nf : b ∉ fs) : (wide h H fs).get? b = some o := PySem.W.hideAll_get _ (hidT_get e n) nf
theorem of_wide {h : Heap} {H : Hp} {fs : List Addr} {b : Addr} {o : Obj} (e : (wide h H fs).get? b = some o) : h.get? b = some o ∧ H b = none := of_hidT (PySem.W.of_hideAll fs e)
theorem wide_none {h : Heap} {H : Hp} {fs : List Addr} {b : Addr} (hb : b ∈ fs) : (wide h H fs).get? b = none := PySem.W.hideAll_none fs hb
theorem funFrames_base {h base base' : Heap} : ∀ {l : List Env}, h.FunFrames base l → (∀ b ∈ frs l, base'.get? b = none) → h.FunFrames base' l
  | [], _, _ => trivial
  | env :: r, ⟨hk, ⟨L, o, hf, hn, ho, hd⟩, hr⟩, k => by
    have e : frs (env :: r) = L :: frs r := by unfold frs; rw [List.filterMap_cons, hf]
    exact ⟨hk, ⟨L, o, hf, k L (by rw [e]; exact List.mem_cons_self), ho, hd⟩, funFrames_base hr fun b hb => k b (by rw [e]; exact List.mem_cons_of_mem _ hb)⟩
structure Wide (X : Cx) (σ : St) (D : List Addr) (H : Hp) (base' : Heap) : Prop where
  sub : ∀ b o, X.base.get? b = some o → base'.get? b = some o
  mod : Mod X.K X.mg base'
  ext : ∀ a φ, a ∈ D → H a = some (.ext φ) → φ base'
  val : ∀ (i : Nat) (x : Str) (v : V), X.N[i]? = some x → σ[i]? = some (some v) → X.env.scope.names.lookup x = some .cell → ∃ c u, X.env.cells.lookup x = some c ∧ base'.IsCell c (some u) ∧ RelV v u
  cell : ∀ x c, X.env.cells.lookup x = some c → ∃ v, base'.IsCell c v
  inj : ∀ x y c, X.env.cells.lookup x = some c → X.env.cells.lookup y = some c → x = y
section
variable {X : Cx} {k : Nat} {f : Addr} {fd : FuncData} {ps : List Str} {sp : Sp} {pins : List (Addr × Obj)} {σ : St} {H : Hp} {s : Shared} {D : List Addr}
theorem wide_of (I : Inv X pins σ H s) (hfn : ∀ x, X.fn x = true) (hD : ∀ a ∈ D, ∃ φ, H a = some (.ext φ)) : Wide X σ D H (wide s.heap (untr D H) (frs X.stack)) := by
  have nD : ∀ b, H b = none → b ∉ D := fun b n z => by obtain ⟨φ, e⟩ := hD b z; rw [n] at e; cases e
  have nfr : ∀ b o, X.base.get? b = some o → b ∉ frs X.stack := fun b o e z => by
    rcases List.mem_cons.mp (I.stkSub b z) with q | q
    · have := Heap.lt_size e
      rw [q] at this
      exact absurd (Nat.lt_of_lt_of_le this (Nat.le_trans I.ok.bsz I.ok.above)) (Nat.lt_irrefl _)
    · exact I.ok.nofr e q
  have sub : ∀ b o, X.base.get? b = some o → (wide s.heap (untr D H) (frs X.stack)).get? b = some o := fun b o e =>
    wide_get (I.bs b o e).1 (by rw [untr_out (nD b (I.bs b o e).2)]; exact (I.bs b o e).2) (nfr b o e)
  have cellK : ∀ x c v, X.env.cells.lookup x = some c → s.heap.IsCell c v → (wide s.heap (untr D H) (frs X.stack)).IsCell c v := fun x c v e ⟨o, ho, hd⟩ => by
    refine ⟨o, wide_get ho (by rw [untr_out (nD c (I.freeC x c e))]; exact I.freeC x c e) fun z => ?_, hd⟩
    rcases List.mem_cons.mp (I.stkSub c z) with q | q
    · exact I.cne x c e q
    · obtain ⟨_, o', ho', _⟩ := I.ok.funs.mem q
      exact absurd (Nat.lt_of_lt_of_le (Heap.lt_size ho') (I.ok.cab x c (hfn x) e)) (Nat.lt_irrefl _)
  refine ⟨sub, ⟨I.ok.mod.kin.keeps sub, I.ok.mod.glob.keeps sub, ?_, I.ok.mod.nolimit.keeps sub⟩, fun a φ ha e => ?_, fun i x v h1 h2 h3 => ?_, fun x c e => ?_, I.ok.inj⟩
  · obtain ⟨mb, h1, h2⟩ := I.ok.mod.blt
    exact ⟨mb, h1.keeps sub, h2⟩
  · obtain ⟨p, ⟨o, ho⟩, st⟩ := I.hok a _ e
    refine st _ _ p fun o' e' => wide_get e' (untr_in ha) fun z => ?_
    rw [I.stkFree a z] at e; cases e
  · obtain ⟨m, _, hl⟩ := I.loc
    obtain ⟨u, r, l⟩ := hl i x v h1 h2 (.inr (.inl h3))
    rcases l with ⟨q, _⟩ | ⟨_, c, e, z⟩
    · have q' : X.env.scope.names.lookup x = some .local := q
      rw [h3] at q'; cases q'
    · exact ⟨c, u, e, cellK x c _ e z, r⟩
  · obtain ⟨v, z⟩ := I.cell x c e
    exact ⟨v, cellK x c v e z⟩
theorem run_fnW {Q : VK} {us : List Value} {vs : List V} (I : Inv X pins σ H s) (hfn : ∀ x, X.fn x = true) (hD : ∀ a ∈ D, ∃ φ, H a = some (.ext φ)) (F : FnOk X.prog X.w X.K X.mg (wide s.heap (untr D H) (frs X.stack)) CX0 k f fd ps sp) (hr : Room k X.A)
    (hb : Binds X.K fd ps []) (r : Vals vs us) (h : sp vs (untr D H) (fun v H2 => (∀ b ∈ D, H2 b = none) → Q v (retr D H H2)) E0) : wpAny (model X.prog X.w) X.A (call (.ref f) us) (EP X pins σ Q) X.xe s := by
  have W := wide_of I hfn hD
  have hl : (us ++ []).length = ps.length := by rw [List.append_nil, ← r.length]; exact F.len _ _ _ _ h
  have keepU : ∀ b u, H b = some u → (∀ φ, u ≠ .ext φ) → untr D H b = some u := fun b u e ne => by
    rw [untr_out fun z => ?_]; exact e
    obtain ⟨φ, q⟩ := hD b z
    rw [e] at q; cases q; exact ne φ rfl
  have uU : ∀ b u, untr D H b = some u → b ∉ D ∧ H b = some u := fun b u e => by
    by_cases hb : b ∈ D
    · rw [untr_in hb] at e; cases e
    · rw [untr_out hb] at e; exact ⟨hb, e⟩
  have hokU : HOk X.prog X.w (untr D H) s.heap := fun b u e => (I.hok b u (uU b u e).2).stay (fun _ _ _ q => q) (fun d q => keepU d _ q fun φ z => nomatch z) fun d xs q => keepU d _ q fun φ z => nomatch z
  have nU : ∀ b, H b = none → untr D H b = none := fun b n => by
    by_cases hb : b ∈ D
    · exact untr_in hb
    · rw [untr_out hb]; exact n
  have e0 : Env0 X.prog X.w X.K X.mg (wide s.heap (untr D H) (frs X.stack)) X.A X.stack s (untr D H) :=
    ⟨I.ok.frames, W.mod, fun b o e => of_wide e, Nat.le_of_eq (wide_size _ _ _), funFrames_base I.stack fun b hb => wide_none hb, fun b hb => nU b (I.stkFree b hb), hokU, I.bare⟩
  refine wpAny_call (codeAny_mono (F.run X.A X.stack s (untr D H) ⟨us, []⟩ us vs _ _ hr e0 (by have := hb s us I.kIn hl; rwa [List.append_nil] at this) r h) fun r s' hq => ?_)
  cases r with
  | error e => exact hq.elim
  | ok fl =>
    cases fl with
    | next => exact False.elim hq
    | brk => exact False.elim hq
    | cont => exact False.elim hq
    | ret u =>
      obtain ⟨v, H2, os, bare, un, hok, r, q⟩ := hq
      have inD : ∀ b, b ∈ D → ∃ φ o, H b = some (.ext φ) ∧ s.heap.get? b = some o ∧ s'.heap.get? b = some o ∧ H2 b = none := fun b hb => by
        obtain ⟨φ, e⟩ := hD b hb
        obtain ⟨p, ⟨o, ho⟩, st⟩ := I.hok b _ e
        refine ⟨φ, o, e, ho, un.keep b o ho (untr_in hb) (fun z => ?_) (by simp), un.free b o ho (untr_in hb) (by simp)⟩
        rw [I.stkFree b z] at e; cases e
      have nd2 : ∀ b u, H2 b = some u → b ∉ D := fun b u e z => by obtain ⟨_, _, _, _, _, n⟩ := inD b z; rw [n] at e; cases e
      have hokR : HOk X.prog X.w (retr D H H2) s'.heap := fun b u e => by
        by_cases hb : b ∈ D
        · rw [retr_in hb] at e
          obtain ⟨φ, o, e1, ho, ho', _⟩ := inD b hb
          rw [e1] at e; cases e
          obtain ⟨p, _, st⟩ := I.hok b _ e1
          exact ⟨st _ _ p fun o2 e2 => by rw [ho] at e2; cases e2; exact ho', ⟨o, ho'⟩, st⟩
        · rw [retr_out hb] at e
          exact (hok b u e).stay (fun _ _ _ q => q) (fun d q => by rw [retr_out (nd2 d _ q)]; exact q) fun d xs q => by rw [retr_out (nd2 d _ q)]; exact q
      have unR : Un (frs X.stack) [] H (retr D H H2) s.heap s'.heap := by
        have nD : ∀ b, H b = none → b ∉ D := fun b n z => by obtain ⟨φ, e⟩ := hD b z; rw [n] at e; cases e
        refine ⟨fun b o e n h1 h2 => un.keep b o e (nU b n) h1 h2, fun b o e n h1 h2 => un.slot b o e (nU b n) h1 h2, fun b o e n h2 => by rw [retr_out (nD b n)]; exact un.free b o e (nU b n) h2, un.there, fun b xs e => ?_, fun b o u e => ?_, fun b qs e => ?_⟩
        · have e1 := keepU b _ e fun φ z => nomatch z
          rw [retr_out (uU b _ e1).1]; exact un.tups b xs e1
        · have e1 := keepU b _ e fun φ z => nomatch z
          rw [retr_out (uU b _ e1).1]; exact un.frzs b o u e1
        · have e1 := keepU b _ e fun φ z => nomatch z
          rw [retr_out (uU b _ e1).1]; exact un.tbls b qs e1
      exact I.after ⟨v, _, os, bare, unR, hokR, r, q fun b hb => by obtain ⟨_, _, _, _, _, n⟩ := inD b hb; exact n⟩
end
section
variable {X : Cx} {x : Str} {p pos : Pos} {e : Expr} {es : List Expr} {t : TA} {k : Nat} {f : Addr} {fd : FuncData} {ps : List Str}
def tCallW (X : Cx) (k : Nat) (f : Addr) (fd : FuncData) (ps : List Str) (t : TA) : TE := fun σ H Q => t σ H fun vs H1 => ∃ D : List Addr, (∀ a ∈ D, ∃ φ, H1 a = some (.ext φ)) ∧
  ∀ base' : Heap, Wide X σ D H1 base' → ∃ sp : Sp, FnOk X.prog X.w X.K X.mg base' CX0 k f fd ps sp ∧ sp vs (untr D H1) (fun v H2 => (∀ b ∈ D, H2 b = none) → Q v (retr D H1 H2)) E0
theorem pe_callW (hfn : ∀ x, X.fn x = true) (hr : Room k X.A) (hg : Gl X x) (hm : X.mg x = some (.ref f)) (hk : PySem.W.keepIn X.K (.ref f) = true) (hb : Binds X.K fd ps [])
    (ha : PA X (e :: es) t) (hdb : (x == ("__debug__" : Str)) = false := by decide) (he : starEach (e :: es) X.env = (false, eval e X.env) :: starEach es X.env := by rfl) (hpl : (backTo pos (starEach es X.env)).any (·.1) = false := by rfl) :
    PE X (.Call (.Name x p) (e :: es) [] pos) (tCallW X k f fd ps t) := by
  intro pins s σ H Q I h
  refine wpAny_Call_Name_kw (ld_glob I hg hm ?_ hdb)
  refine PySem.W.callWith_K (h₀ := X.base) I.ok.mod.kin hk (thn (ha pos pins s σ H _ I h) fun us s1 ⟨vs, H1, I1, r, D, hD, q⟩ => ⟨I1.kIn, ?_⟩) he hpl
  obtain ⟨sp, F, hsp⟩ := q _ (wide_of I1 hfn hD)
  exact run_fnW I1 hfn hD F hr hb r hsp
end
end L2
set_option Elab.async false
set_option linter.all false
set_option maxRecDepth 100000
set_option maxHeartbeats 1000000
namespace L2
open PySem PySem.Spec PyProof.Rows
def OnlyT (ts : List Addr) (H : Hp) : Prop := (∀ b, H b = none ∨ (∃ o xs, H b = some (.frz o (.lst xs))) ∨ (b ∈ ts ∧ H b = some (.tbl #[]))) ∧ ∀ b ∈ ts, H b = some (.tbl #[])
theorem OnlyT.tab {ts : List Addr} {H : Hp} {T : Addr} {L : List (Pos × Str)} (x : OnlyT ts H) (h : T ∈ ts) : Tab H T L := ⟨#[], x.2 T h, trivial, fun p _ => .inl rfl⟩
theorem law_callT {P : Program} {w : World} {K : PySem.W.Frag} {mg mb : Str → Option Value} {CX : CXT} {k : Nat} {fa a : Addr} {fd : FuncData} {x : Str} {sp : Sp} {s₁ : Shared} {vs : List Value} {ns : List Int} {ts : List Addr}
    (KX : K.In s₁.heap) (hns : s₁.heap.Ns mainGlobals mg) (hb : s₁.heap.Ns builtinsNs mb) (hbb : ∀ x : Str, x ≠ "__name__" → mb x = bootBuiltins x) (hlim : s₁.heap.NoLimit) (hg : s₁.gens = #[])
    (ha : s₁.heap.get? a = some { cls := .type "list", data := .seq vs.toArray }) (hi : IntsAre vs ns) (hl : ns.length ≤ sizeLine) (hr : Room k callerA)
    (hts : ∀ T ∈ ts, (∃ c, PySem.W.CodeHd s₁.heap c T) ∧ s₁.heap.get? T = some (PySem.W.tabObj #[]) ∧ K.lookup T = none) (hBA : BltAt mg s₁.heap)
    (F : ∀ base : Heap, K.In base → base.Ns mainGlobals mg → BltAt mg base → FnOk P w K mg base CX k fa fd [x] sp) (hbind : ∀ (s : Shared) (u : Value), BindsTo s fd ⟨[u], []⟩ [(x, u)])
    (hsp : ∀ H : Hp, OnlyT ts H → SqL K H a (ns.map V.int) → sp [.ref a] H (fun v _ => v = .bl true) fun _ _ _ => False)
    (hCX : ∀ H e s', CX [] H s₁ (fun _ _ _ => False) e s' → False) :
    codeAny (model P w) callerA (.call (.ref fa) ⟨[.ref a], []⟩) (fun r s' => r = .ok (.ret (.bool true)) ∧ OldK s₁.heap s'.heap ∧ s'.os = s₁.os ∧ AllBare s'.gens) s₁ := by
  have rv := vals_ints hi
  have lenV := hi.length
  have aT : a ∉ ts := fun z => by
    have := (hts a z).2.1
    rw [ha] at this; cases this
  have core : ∀ H : Hp, OnlyT ts H → SqL K H a (ns.map V.int) → HOk P w H s₁.heap → (∀ b, H b ≠ none → b = a ∨ b ∈ ts) → (H a ≠ none → K.lookup a = none) →
      codeAny (model P w) callerA (.call (.ref fa) ⟨[.ref a], []⟩) (fun r s' => r = .ok (.ret (.bool true)) ∧ OldK s₁.heap s'.heap ∧ s'.os = s₁.os ∧ AllBare s'.gens) s₁ := by
    intro H hO hS hok hA hK
    have base_of : ∀ {b : Addr} {o : Obj}, s₁.heap.get? b = some o → H b = none → (hidT s₁.heap H).get? b = some o := fun e n => hidT_get e n
    have noA : ∀ {b : Addr} {o : Obj}, s₁.heap.get? b = some o → o ≠ { cls := .type "list", data := .seq vs.toArray } → o ≠ PySem.W.tabObj #[] → H b = none := fun {b o} e d1 d2 => by
      cases q : H b with
      | none => rfl
      | some u =>
        rcases hA b (by rw [q]; simp) with e' | e'
        · subst e'
          rw [ha] at e; cases e
          exact absurd rfl d1
        · have := (hts b e').2.1
          rw [e] at this; cases this
          exact absurd rfl d2
    have nsK : ∀ {b : Addr} {m : Str → Option Value}, s₁.heap.Ns b m → (hidT s₁.heap H).Ns b m := fun {b m} ⟨o, es, ep, e, d, r⟩ => ⟨o, es, ep, base_of e (noA e (fun z => by rw [z] at d; cases d) fun z => by rw [z] at d; cases d), d, r⟩
    have hKb : K.In (hidT s₁.heap H) := fun b o e => base_of (KX b o e) (by
      cases q : H b with
      | none => rfl
      | some u =>
        rcases hA b (by rw [q]; simp) with e' | e'
        · subst e'
          rw [hK (by rw [q]; simp)] at e; cases e
        · rw [(hts b e').2.2] at e; cases e)
    have hBb : BltAt mg (hidT s₁.heap H) := by
      obtain ⟨bm, o, h1, h2, h3, h4, h5, h6⟩ := hBA
      exact ⟨bm, o, h1, h2, base_of h3 (noA h3 (fun z => by rw [z] at h4; exact absurd (Value.type.inj h4) (by decide)) fun z => by rw [z] at h4; cases h4), h4, h5, h6⟩
    have hM : Mod K mg (hidT s₁.heap H) := ⟨hKb, nsK hns, ⟨mb, nsK hb, hbb⟩, let ⟨mc, h1, h2⟩ := hlim; ⟨mc, nsK h1, h2⟩⟩
    have e0 : Env0 P w K mg (hidT s₁.heap H) callerA [] s₁ H := ⟨rfl, hM, fun b o e => of_hidT e, Nat.le_of_eq (hidT_size _ _), trivial, fun b hb => absurd (show b ∈ ([] : List Addr) from hb) (by simp), hok, .of_eq hg⟩
    refine codeAny_mono ((F _ hKb (nsK hns) hBb).run callerA [] s₁ H ⟨[.ref a], []⟩ [.ref a] [.ref a] _ _ hr e0 (hbind s₁ (.ref a)) (.cons rfl .nil) (hsp H hO hS)) fun r s' h => ?_
    cases r with
    | error e => exact (hCX H e s' h).elim
    | ok fl =>
      cases fl with
      | next => exact False.elim h
      | brk => exact False.elim h
      | cont => exact False.elim h
      | ret u =>
        obtain ⟨v, H', os, bare, un, hok', r', q⟩ := h
        have q' : v = .bl true := q
        subst q'
        obtain rfl : u = Value.bool true := r'
        refine ⟨rfl, ⟨fun b o e => ?_, fun b o e => un.there b o e (by simp)⟩, os, bare⟩
        cases q : H b with
        | none => exact .inl (un.keep b o e q (by intro z; exact absurd (show b ∈ ([] : List Addr) from z) (by simp)) (by simp))
        | some u =>
          rcases hO.1 b with z | ⟨ob, xs, z⟩ | ⟨hb, z⟩
          · rw [q] at z; cases z
          · have z2 := un.frzs b ob _ z
            obtain ⟨e1, _⟩ := hok b _ z
            obtain ⟨e2, _⟩ := hok' b _ z2
            rw [e] at e1; cases e1
            exact .inl e2
          · obtain ⟨more, z2⟩ := un.tbls b _ z
            have e2 : s'.heap.get? b = some (PySem.W.tabObj (#[] ++ more)) := hok' b _ z2
            obtain ⟨⟨c, hc⟩, e3, _⟩ := hts b hb
            have e4 : o = PySem.W.tabObj #[] := by rw [e] at e3; exact Option.some.inj e3
            subst e4
            exact .inr (.inl ⟨(hc.tab e3).isCodeTable, rfl, #[], more, rfl, e2⟩)
  have tne : ∀ T ∈ ts, T ≠ a := fun T hT z => aT (z ▸ hT)
  cases hk : K.lookup a with
  | some o =>
    have e := KX a o hk
    rw [ha] at e
    cases e
    refine core (fun b => if b ∈ ts then some (.tbl #[]) else none) ⟨fun b => ?_, fun b hb => if_pos hb⟩ (.inr ⟨_, vs.toArray, _, hk, rfl, rfl, rfl, by rw [List.size_toArray, lenV]; exact hl, by simpa using rv⟩) (fun b u z => ?_) (fun b z => ?_) fun z => absurd (if_neg aT) z
    · by_cases hb : b ∈ ts
      · exact .inr (.inr ⟨hb, if_pos hb⟩)
      · exact .inl (if_neg hb)
    · by_cases hb : b ∈ ts
      · have z' := (if_pos hb).symm.trans z
        cases z'
        exact (hts b hb).2.1
      · have z' := (if_neg hb).symm.trans z
        cases z'
    · by_cases hb : b ∈ ts
      · exact .inr hb
      · exact absurd (if_neg hb) z
  | none =>
    have eA : ∀ b, b = a → (if b ∈ ts then some (HO.tbl #[]) else if b = a then some (HO.frz { cls := .type "list", data := .seq vs.toArray } (.lst (ns.map V.int))) else none) = some (HO.frz { cls := .type "list", data := .seq vs.toArray } (.lst (ns.map V.int))) := fun b hb => by
      rw [if_neg (hb ▸ aT), if_pos hb]
    have eN : ∀ b, b ∉ ts → b ≠ a → (if b ∈ ts then some (HO.tbl #[]) else if b = a then some (HO.frz { cls := .type "list", data := .seq vs.toArray } (.lst (ns.map V.int))) else none) = none := fun b h1 h2 => by
      rw [if_neg h1, if_neg h2]
    refine core (fun b => if b ∈ ts then some (.tbl #[]) else if b = a then some (.frz { cls := .type "list", data := .seq vs.toArray } (.lst (ns.map V.int))) else none) ⟨fun b => ?_, fun b hb => if_pos hb⟩ (.inl (.inr ⟨{ cls := .type "list", data := .seq vs.toArray }, eA a rfl⟩)) (fun b u z => ?_) (fun b z => ?_) fun _ => hk
    · by_cases hb : b ∈ ts
      · exact .inr (.inr ⟨hb, if_pos hb⟩)
      by_cases hb2 : b = a
      · exact .inr (.inl ⟨_, _, eA b hb2⟩)
      · exact .inl (eN b hb hb2)
    · by_cases hb : b ∈ ts
      · have z' := (if_pos hb).symm.trans z
        cases z'
        exact (hts b hb).2.1
      by_cases hb2 : b = a
      · have z' := (eA b hb2).symm.trans z
        cases z'
        subst hb2
        exact ⟨ha, by rw [List.length_map]; exact hl, vs, _, rv, ha⟩
      · have z' := (eN b hb hb2).symm.trans z
        cases z'
    · by_cases hb : b ∈ ts
      · exact .inr hb
      by_cases hb2 : b = a
      · exact .inl hb2
      · exact absurd (eN b hb hb2) z
theorem walk_ofT {l : PySem.W.OpenLaw} {n k : Nat} {q : Program} {loose : List Str} {XP : (Str → Option Value) → Heap → Prop} {YP : World → Heap → Prop} {d : DefRec} {K : Params → PySem.W.Frag} {sp : World → List Addr → Sp} {x : Str}
    (hn : l.most = some n) (hn2 : n ≤ sizeLine) (hdf : d.params.defaults = []) (hr : Room k callerA)
    (hY : ∀ (w : World) (h : Heap), YP w h → (K w.params).In h)
    (F : ∀ (w : World) (mg : Str → Option Value) (fa : Addr) (h : Heap), (K w.params).In h → h.Ns mainGlobals mg → mg d.name = some (.ref fa) → YP w h →
      ∃ (fd : FuncData) (ts : List Addr), (∀ T ∈ ts, (∃ c, PySem.W.CodeHd h c T) ∧ h.get? T = some (PySem.W.tabObj #[]) ∧ (K w.params).lookup T = none) ∧ (∀ (s : Shared) (u : Value), BindsTo s fd ⟨[u], []⟩ [(x, u)]) ∧
        ∀ base : Heap, (K w.params).In base → base.Ns mainGlobals mg → BltAt mg base → FnOk l.prog w (K w.params) mg base CX0 k fa fd [x] (sp w ts))
    (hsp : ∀ (w : World) (H : Hp) (a : Addr) (ns : List Int) (ts : List Addr), ns.length ≤ n → OnlyT ts H → SqL (K w.params) H a (ns.map V.int) → sp w ts [.ref a] H (fun v _ => v = .bl true) fun _ _ _ => False) :
    PySem.W.WalkO q loose XP YP l.row.toRowW d [] (fun f vs => PySem.call f vs) := by
  refine Att.attach_call hn hdf fun w s₀ s₁ mg mb fa o pm cd doc a vs ns G Y ho hd hcd hmg hobj hints hlen hg => ?_
  have KX := hY w _ Y
  obtain ⟨fd, ts, h1, hb, hF⟩ := F w mg fa _ KX G.T.g hmg Y
  obtain ⟨bm, ob, b1, b2, b3, b4⟩ := G.T.bmain
  exact law_callT KX G.T.g G.T.b G.T.builtins G.T.nolimit hg hobj hints (Nat.le_trans hlen hn2) hr h1 ⟨bm, ob, b1, b2, b3, b4⟩ hF hb (fun H hO hS => hsp w H a ns ts hlen hO hS) fun H e s' => id
end L2
set_option Elab.async false
set_option linter.all false
set_option maxRecDepth 100000
set_option maxHeartbeats 4000000
namespace L2
open PySem PySem.Spec PyProof.Rows
theorem keys_miss_list : typeLookup (.type "list") "keys" = pure none := by rw [typeLookup_type, builtinLookup_eq_fast]; kernel_rfl
section
variable {P : Program} {w : World} {A : Around} {E : Value → Shared → Prop} {s : Shared}
theorem keys_of_list {a : Addr} {xs : Array Value} {k : Nat} {Q : Option Value → Shared → Prop} (hx : s.heap.get? a = some { cls := .type "list", data := .seq xs k }) (hA : A.handled = none)
    (h : ∀ h' tk, (∀ b o, s.heap.get? b = some o → h'.get? b = some o) → Q none { s with heap := h', toks := tk }) : wpAny (model P w) A (getAttr? (.ref a) "keys") Q E s := by
  obtain ⟨hp, g, d, tk, os⟩ := s
  have hT : ∀ tk', (⟨hp, g, d, tk', os⟩ : Shared).TypeIs (.ref a) "list" := fun _ => ⟨_, hx, rfl⟩
  have f1 := sub_AttributeError
  have f3 := F.slot_list_getattribute.lookup
  have f4 := F.slot_list_getattribute.bind (.ref a)
  have f5 := am_list_getattr_none
  have f6 := keys_miss_list
  unfold getAttr? getAttrBy? getAttrBy
  repeat (any_goals (first | assumption | exact hT _ | ((with_reducible show wpAny _ _ (call (Value.builtin "list.__getattribute__") _ _) _ _ _); refine call_meets F.slot_list_getattribute (hT _) am_entry_list_getattribute (F.args_list_getattribute_2 _ _) (meets_getattribute_miss_list a xs k #[] "keys" _ keys_miss_list (by decide +kernel) (by size_fits)) ⟨hx, hA, fun h' tk' e hx' => ?_⟩) | wp_step))
  obtain ⟨t', u', he⟩ := hx'.there
  show wpAny _ _ (getattributeRaised _ _ _ _ _ _ _) _ _ _
  unfold getattributeRaised
  repeat (any_goals (first | assumption | wp_step))
  exact h _ _ hx'.keeps
end
theorem entry_update_loop : entryFor table "dict.update.loop" = some Builtin.«dict.update.loop» := entryFor_of_tree (by kernel_rfl)
theorem plain_update_loop : plainId "dict.update.loop" = true := by decide +kernel
section
variable {P : Program} {w : World} {A : Around} {R : Result → Shared → Prop} {I D : Addr} {fp wr : List Addr} {G : Array GenState → Array GenState → Prop} {n : Nat} {Pv : Nat → Value → Prop} {St : Nat → Shared → Prop}
def PairsAt (P : Program) (w : World) (h : Heap) (D : Addr) (wr : List Addr) (Pv : Nat → Value → Prop) (more : List (Key × Value)) : Prop := ∀ i v, Pv i v → ∃ p k key u o m, v = .ref p ∧ more[i]? = some (k, u) ∧ (mixKind P w).is k key = true ∧ h.get? p = some o ∧ o.cls = .type "tuple" ∧ o.data = .seq #[key, u] m ∧ p ≠ D ∧ p ∉ wr
theorem dict_loop (W : WalksS P w A.in1 I fp wr G n Pv St) (hDf : D ∉ fp) (more : List (Key × Value)) (hml : more.length = n) (hb : n < sizeLine) :
    ∀ (k i : Nat) (j : Int) (s : Shared), n - i = k → i ≤ n → St i s → PairsAt P w s.heap D wr Pv more → s.heap.DictOf (mixKind P w) D (merged [] (more.take i)) →
      (∀ s', Moved (D :: wr) G s s' → s'.heap.DictOf (mixKind P w) D (merged [] more) → R (.ok (.ret .none)) s') →
      codeAny (model P w) A (.builtin "dict.update.loop" ⟨[.ref D, .ref I, rawInt j, .none], []⟩) R s := by
  have hDw : D ∉ wr := fun z => hDf (W.sub _ z)
  have sub : ∀ b ∈ wr, b ∈ D :: wr := fun b z => List.mem_cons_of_mem _ z
  intro k
  induction k with
  | zero =>
    intro i j s hk hi st hp hd hR
    have e : i = n := by omega
    subst e
    refine codeAny_builtin entry_update_loop ?_
    rw [Around.under_plainId plain_update_loop]
    show wpAny (model P w) A.in1 (pyNext (.ref I) >>= _) _ _ s
    refine wpAny_bind (W.done s _ _ st fun s' mv => ?_)
    show wpAny (model P w) A.in1 (Builtin.Dict.addKeywords D [] >>= _) _ _ s'
    refine wpAny_bind (wpAny_pure ?_)
    refine wpAny_pure (hR s' (mv.mono sub) ?_)
    obtain ⟨o, es, ep, ho, r⟩ := hd
    rw [List.take_of_length_le (by omega)] at r
    exact ⟨o, es, ep, mv.heap D o hDw ho, r⟩
  | succ k ih =>
    intro i j s hk hi st hp hd hR
    have lt : i < n := by omega
    refine codeAny_builtin entry_update_loop ?_
    rw [Around.under_plainId plain_update_loop]
    show wpAny (model P w) A.in1 (pyNext (.ref I) >>= _) _ _ s
    refine wpAny_bind (W.item i s _ _ lt st fun v s' hv st' mv => ?_)
    obtain ⟨p, kk, key, u, o, m, rfl, em, hkey, ho, hc, hdat, pD, pw⟩ := hp i v hv
    have ho' := mv.heap p o pw ho
    have hd' : s'.heap.DictOf (mixKind P w) D (merged [] (more.take i)) := by
      obtain ⟨od, es, ep, hod, r⟩ := hd
      exact ⟨od, es, ep, mv.heap D od hDw hod, r⟩
    have hT : s'.TypeIs (.ref p) "tuple" := ⟨o, ho', hc⟩
    have hl : (merged [] (more.take i)).length ≤ sizeLine := by
      have := merged_length_le ([] : List (Key × Value)) (more.take i)
      rw [List.length_take] at this
      simp at this
      omega
    refine wpAny_bind (wpAny_holding ?_)
    refine wpAny_bind (wpAny_tryCatch ?_)
    unfold Builtin.Dict.pairItems
    refine wpAny_bind (wpAny_typeOf hT ?_)
    show wpAny _ _ (seqItems? (.ref p) >>= _) _ _ _
    refine wpAny_bind (wpAny_seqItems ho' hdat (wpAny_pure ?_))
    show wpAny _ _ (holding [key, u] (dictSet D key u)) _ _ _
    refine wpAny_holding (wpAny_dictSet_pairs (hsz := hl) hkey hd' fun h' hd2 hs => ?_)
    refine wpAny_pure ⟨plainId_quiet plain_update_loop _, ih (i + 1) (j + 1) _ (by omega) lt (W.frame _ s' h' _ st' (Nat.le_succ _) fun b hb o q => (hs.2 b (fun z => hDf (z ▸ hb))).trans q) (fun i2 v2 hv2 => ?_) ?_ fun s2 mv2 d2 => ?_⟩
    · obtain ⟨p2, k2, key2, u2, o2, m2, e1, e2, e3, e4, e5, e6, e7, e8⟩ := hp i2 v2 hv2
      exact ⟨p2, k2, key2, u2, o2, m2, e1, e2, e3, (hs.2 p2 e7).trans (mv.heap p2 o2 e8 e4), e5, e6, e7, e8⟩
    · show h'.DictOf (mixKind P w) D (merged [] (more.take (i + 1)))
      rw [merged_take_succ [] more i (kk, u) em]
      exact hd2
    · exact hR s2 (Moved.trans W.gtrans ((mv.mono sub).then_heap (Nat.le_succ _) fun b o hb q => (hs.2 b (fun z => hb (z ▸ List.mem_cons_self))).trans q) mv2) d2
end
end L2
set_option Elab.async false
set_option linter.all false
set_option maxRecDepth 100000
set_option maxHeartbeats 4000000
namespace L2
open PySem PySem.Spec PyProof.Rows
section
variable {P : Program} {w : World} {A : Around} {E : Value → Shared → Prop} {s : Shared}
theorem dict_of_pairs {l : Addr} {its : Array Value} {nl : Nat} {more : List (Key × Value)} {Q : Value → Shared → Prop} (hh : A.handled = none) (hl : s.heap.get? l = some { cls := .type "list", data := .seq its nl })
    (hp : ∀ (i : Nat) (v : Value), its[i]? = some v → ∃ p k key u o m, v = .ref p ∧ more[i]? = some (k, u) ∧ (mixKind P w).is k key = true ∧ s.heap.get? p = some o ∧ o.cls = .type "tuple" ∧ o.data = .seq #[key, u] m) (hml : more.length = its.size) (hb : its.size < sizeLine)
    (h : ∀ h' tk, h'.DictOf (mixKind P w) s.heap.objs.size (merged [] more) → (∀ b o, s.heap.get? b = some o → h'.get? b = some o) → Q (.ref s.heap.objs.size) { s with heap := h', toks := tk }) :
    wpAny (model P w) A (call (.type "dict") [.ref l]) Q E s := by
  refine callType_codes (Q₁ := fun obj s₁ => obj = .ref s.heap.objs.size ∧ s₁ = { s with heap := s.heap.push { cls := .type "dict", data := .dict #[] } }) F.kt_called_dict (F.kt_typeCall_dict_1 _) F.entry_dict_init (kt_code_dict_new _ ⟨rfl, rfl⟩) ?_
  rintro obj s₁ ⟨rfl, rfl⟩
  have hnew : (s.heap.push { cls := .type "dict", data := .dict #[] }).DictOf (mixKind P w) s.heap.objs.size [] := Heap.DictOf.new s.heap
  have hl1 : (s.heap.push { cls := .type "dict", data := .dict #[] }).get? l = some { cls := .type "list", data := .seq its nl } := Heap.get?_push_of_some _ hl
  have lS : l < s.heap.objs.size := Heap.lt_size hl
  refine ⟨hnew.typeIs, F.args_dict_init_2 _ _, ?_⟩
  unfold Builtin.«dict.__init__»
  refine wpAny_bind ?_
  unfold Builtin.Dict.selfAndRest
  refine wpAny_bind (wpAny_notOrdered_dict hnew.typeIs ?_)
  show wpAny _ _ (pure (s.heap.objs.size, [Value.ref l])) _ _ _
  refine wpAny_pure ?_
  show wpAny _ _ (Builtin.Dict.updateFrom "dict.__init__" s.heap.objs.size (.ref l) [] .none) _ _ _
  unfold Builtin.Dict.updateFrom
  refine wpAny_bind (wpAny_typeOf (show Shared.TypeIs { s with heap := s.heap.push { cls := .type "dict", data := .dict #[] } } (.ref l) "list" from ⟨_, hl1, rfl⟩) ?_)
  rw [if_pos (by decide)]
  refine wpAny_bind (keys_of_list hl1 (by simp [hh]) fun h1 tk1 k1 => ?_)
  rw [show (none : Option Value).isNone = true from rfl, if_pos rfl]
  refine wpAny_bind (wpAny_rule ?_)
  have hl2 : h1.IsList l its := ⟨_, k1 _ _ hl1, rfl, nl, rfl⟩
  refine wpAny_bind (wpAny_pyIter_list hl2 ?_)
  refine wpAny_pure ⟨plainId_quiet plain_update_loop _, ?_⟩
  have lh1 : l < h1.objs.size := Heap.lt_size (k1 _ _ hl1)
  have neI : l ≠ h1.objs.size := Nat.ne_of_lt lh1
  have dh1 : s.heap.objs.size < h1.objs.size := by
    obtain ⟨o, es, ep, ho, _⟩ := hnew
    exact Heap.lt_size (k1 _ _ ho)
  have nf : s.heap.objs.size ∉ [h1.objs.size, l] := by
    simp only [List.mem_cons, List.not_mem_nil, or_false, not_or]
    exact ⟨Nat.ne_of_lt dh1, Nat.ne_of_gt lS⟩
  have hh3 : A.in1.in1.handled = none := by simp [hh]
  refine dict_loop ((Walks.list hh3 _ l neI its).toS) nf more hml hb (its.size - 0) 0 0 _ (by omega) (Nat.zero_le _) ⟨⟨_, Heap.get?_push_size _ rfl, rfl, rfl⟩, hl2.push _⟩ (fun i v hv => ?_) ?_ fun s' mv hd => ?_
  · obtain ⟨p, k, key, u, o, m, e1, e2, e3, e4, e5, e6⟩ := hp i v hv
    have lp := Heap.lt_size e4
    refine ⟨p, k, key, u, o, m, e1, e2, e3, Heap.get?_push_of_some _ (k1 _ _ (Heap.get?_push_of_some _ e4)), e5, e6, Nat.ne_of_lt lp, fun z => ?_⟩
    have e9 : p = h1.objs.size := List.mem_singleton.mp z
    rw [e9] at lp
    exact absurd (Nat.lt_trans lp dh1) (Nat.lt_irrefl _)
  · show Heap.DictOf _ _ _ (merged [] (more.take 0))
    obtain ⟨o, es, ep, ho, r⟩ := hnew
    exact ⟨o, es, ep, Heap.get?_push_of_some _ (k1 _ _ ho), r⟩
  · obtain ⟨h', g', d', tk', os'⟩ := s'
    have eg : g' = s.gens := mv.gens
    have ed : d' = s.drawn := mv.drawn
    have eo : os' = s.os := mv.os
    subst eg ed eo
    refine ⟨rfl, h h' tk' hd fun b o e => mv.heap b o (fun z => ?_) (Heap.get?_push_of_some _ (k1 _ _ (Heap.get?_push_of_some _ e)))⟩
    have lb := Heap.lt_size e
    simp only [List.mem_cons, List.not_mem_nil, or_false] at z
    rcases z with z | z
    · rw [z] at lb; exact Nat.lt_irrefl _ lb
    · rw [z] at lb; exact Nat.lt_irrefl _ (Nat.lt_trans lb dh1)
end
section
variable {X : Cx}
def rDictP : List V → Hp → VK → Prop := fun vs H Q => ∃ (l : Addr) (ps : List Addr) (kvs : List (Key × V)), vs = [.ref l] ∧ H l = some (.lst (ps.map V.ref)) ∧ Paired (fun (p : Addr) (q : Key × V) => H p = some (.tup [kV q.1, q.2])) ps kvs ∧ kvs.length < sizeLine ∧ ∀ D, H D = none → Q (.ref D) (upd H D (.dK (mergeK [] kvs)))
theorem call_dictP (hA : X.A.handled = none) : CallR X (.type "dict") rDictP := by
  intro pins s σ H xs us Q I r h
  obtain ⟨l, ps, kvs, rfl, hl, hp, hb, q⟩ := h
  obtain ⟨u, rfl, ru⟩ := vals1 r
  cases ru
  obtain ⟨z, its, n, rv, e⟩ := I.hok l _ hl
  have key : ∀ (ps : List Addr) (kvs : List (Key × V)) (its : List Value), Paired (fun (p : Addr) (q : Key × V) => H p = some (.tup [kV q.1, q.2])) ps kvs → Vals (ps.map V.ref) its →
      ∃ more : List (Key × Value), KV kvs more ∧ ∀ (i : Nat) (v : Value), its[i]? = some v → ∃ p k key u o m, v = .ref p ∧ more[i]? = some (k, u) ∧ (mixKind X.prog X.w).is k key = true ∧ s.heap.get? p = some o ∧ o.cls = .type "tuple" ∧ o.data = .seq #[key, u] m := by
    intro ps kvs its a
    induction a generalizing its with
    | nil => intro b; cases b; exact ⟨[], .nil, fun i v hv => by simp at hv⟩
    | @cons p q ps kvs h t ih =>
      intro b
      cases b with
      | cons rp rt =>
        obtain ⟨more, m1, m2⟩ := ih _ rt
        obtain ⟨z2, its2, rv2, o, ho, hc, m, hd⟩ := I.hok p _ h
        cases rv2 with
        | cons r1 r2 =>
          cases r2 with
          | cons r2 r3 =>
            cases r3
            cases (show _ = Value.ref p from rp)
            refine ⟨(q.1, _) :: more, .cons ⟨rfl, r2⟩ m1, fun i v hv => ?_⟩
            cases i with
            | zero =>
              have e : Value.ref p = v := by simpa using hv
              exact ⟨p, q.1, _, _, o, m, e.symm, rfl, kV_is r1, ho, hc, hd⟩
            | succ i => exact m2 i v (by simpa using hv)
  obtain ⟨more, m1, m2⟩ := key ps kvs its hp rv
  have len1 : more.length = its.length := by rw [← Paired.length m1, ← Paired.length hp, ← rv.length, List.length_map]
  have len2 : its.length = kvs.length := by rw [← len1, ← Paired.length m1]
  refine dict_of_pairs (nl := n) (its := its.toArray) (more := more) hA e (fun i v hv => m2 i v (by simpa using hv)) (by simpa using len1) (by rw [List.size_toArray, len2]; exact hb) fun h' tk dd kp => ?_
  have bg : (s.heap.objs.size == sysModules) = false := beq_eq_false_iff_ne.mpr (Ne.symm (Nat.ne_of_lt I.big))
  have hz : (mergeK [] kvs).length ≤ sizeLine := by
    have h1 := length_mergeK kvs []
    rw [List.length_nil] at h1
    omega
  exact ⟨.ref s.heap.objs.size, _, I.laid (a := s.heap.objs.size) (o := .dK (mergeK [] kvs)) (t' := tk) kp (Nat.le_refl _) ⟨hz, bg, _, m1.merge .nil, dd⟩, rfl, q _ (I.hok.fresh (Nat.le_refl _))⟩
end
end L2
set_option Elab.async false
set_option linter.all false
set_option maxRecDepth 100000
set_option maxHeartbeats 4000000
namespace L2
open PySem PySem.Spec PyProof.Rows
section
variable {P : Program} {w : World} {A : Around} {E : Value → Shared → Prop} {s : Shared} {K : Type} [DecidableEq K] {knd : KeyKind P w K}
theorem setdefault_pairs {d : Addr} {kvs : List (K × Value)} {k : K} {key dflt : Value} {Q : Value → Shared → Prop} (hkey : knd.is k key = true) (hm : s.heap.DictOf knd d kvs) (hsz : kvs.length ≤ sizeLine)
    (hthere : ∀ v, valueAt kvs k = some v → Q v { s with toks := s.toks + 1 })
    (hnew : valueAt kvs k = none → ∀ h', h'.DictOf knd d (stored kvs k dflt) → Heap.SameBut d s.heap h' → Q dflt { s with heap := h', toks := s.toks + 1 }) :
    wpAny (model P w) A (dictSetDefault d key dflt) Q E s := by
  obtain ⟨f, hf⟩ : ∃ f, f = valueAt kvs := ⟨_, rfl⟩
  have hmap := hm.mapOf
  obtain ⟨o, es, ep, ho, hc, hd, hk, hp, hn⟩ := hm
  have hes : es.size ≤ sizeLine := by
    have e1 := hp.length
    have e2 : es.toList.length = es.size := by simp
    omega
  have hidx : (es.findIdx? fun e => knd.is k e.key) = kvs.findIdx? fun kv => decide (kv.1 = k) := by
    rw [← hp.findIdx k]; obtain ⟨l⟩ := es; simp
  have hfind := hp.find k
  unfold dictSetDefault
  try with_reducible refine wpAny_holding ?_
  refine wpAny_bind (knd.pyHash hkey ?_)
  refine wpAny_bind (wpAny_dictFind_of (s := { s with toks := s.toks + 1 }) hkey ho hd hk ?_)
  cases hi : es.findIdx? fun e => knd.is k e.key with
  | some i =>
    have hfk : valueAt kvs k = (es[i]?).map (·.val) := by
      obtain ⟨o', es', ep', ho', hc', hd', hk', hf'⟩ := hmap
      rw [ho] at ho'; cases ho'
      rw [hd] at hd'; cases hd'
      rw [← hf' k, findBy_of_findIdx?, hi]
    refine wpAny_bind (wpAny_dictEntries (s := { s with toks := s.toks + 1 }) ho hd ?_)
    cases he : es[i]? with
    | none =>
      exfalso
      have := Array.findIdx?_eq_some_iff_findIdx_eq.mp hi
      have hlt : i < es.size := this.1
      rw [Array.getElem?_eq_getElem hlt] at he
      exact nomatch he
    | some e =>
      rw [he] at hfk
      exact wpAny_bind (wpAny_rule (wpAny_pure (hthere e.val hfk)))
  | none =>
    have hfk : valueAt kvs k = none := by
      obtain ⟨o', es', ep', ho', hc', hd', hk', hf'⟩ := hmap
      rw [ho] at ho'; cases ho'
      rw [hd] at hd'; cases hd'
      rw [← hf' k, findBy_of_findIdx?, hi]
    have hnot : k ∉ kvs.map (·.1) := not_mem_of_findIdx_none (hidx ▸ hi)
    have hany : ¬ (kvs.any fun kv => decide (kv.1 = k)) = true := by
      rw [List.any_eq_true]; rintro ⟨kv, hkv, he⟩
      exact hnot (List.mem_map.mpr ⟨kv, hkv, of_decide_eq_true he⟩)
    refine wpAny_bind (wpAny_rule (wpAny_bind (wpAny_updateDictKeys (hz := hes) (s := { s with toks := s.toks + 1 }) ho hd (wpAny_pure (hnew hfk _ ⟨_, _, ep + 1, Heap.get?_update_self _ ho (Obj.isFreed_of_dict (Obj.data_mapDictKeys hd _)),
      hc.mapDictKeys _, Obj.data_mapDictKeys hd _, hk.push hkey _, ?_, ?_⟩ (Heap.SameBut.update ..))))))
    · rw [stored, if_neg hany]
      have := hp.append hkey (knd.hash k) dflt
      obtain ⟨l⟩ := es
      simpa using this
    · rw [stored, if_neg hany, List.map_append, List.nodup_append]
      refine ⟨hn, by simp, ?_⟩
      intro a ha b hb
      simp only [List.map_cons, List.map_nil, List.mem_singleton] at hb
      subst hb
      exact fun e => hnot (e ▸ ha)
theorem meets_setdefault (knd : KeyKind P w K) {d : Addr} {k : K} {key dflt : Value} (hkey : knd.is k key = true) (hd : (d == sysModules) = false) :
    MeetsIn P w (Builtin.«dict.setdefault» ⟨[.ref d, key, dflt], []⟩) (fun _ R s => ∃ kvs, s.heap.DictOf knd d kvs ∧ kvs.length ≤ sizeLine ∧
      (∀ v, valueAt kvs k = some v → R (.ok (.ret v)) { s with toks := s.toks + 1 }) ∧
      (valueAt kvs k = none → ∀ h', h'.DictOf knd d (stored kvs k dflt) → Heap.SameBut d s.heap h' → R (.ok (.ret dflt)) { s with heap := h', toks := s.toks + 1 })) :=
  .of_wp fun A R s ⟨kvs, hm, hz, h1, h2⟩ => by
    unfold Builtin.«dict.setdefault»
    refine wpAny_bind ?_
    unfold Builtin.Dict.keyAndDefault
    refine wpAny_bind (wpAny_notOrdered_dict hm.typeIs ?_)
    show wpAny _ _ (pure (d, key, some dflt)) _ _ s
    refine wpAny_pure ?_
    show wpAny _ _ (if (d == sysModules) = true then _ else (dictSetDefault d key dflt >>= _)) _ _ s
    rw [if_neg (by rw [hd]; exact Bool.false_ne_true)]
    exact wpAny_bind (setdefault_pairs hkey hm hz (fun v hv => wpAny_pure ⟨v, rfl, h1 v hv⟩) fun hn h' hm' hs' => wpAny_pure ⟨dflt, rfl, h2 hn h' hm' hs'⟩)
end
section
variable {X : Cx} {o e f : Expr} {apos cpos : Pos} {td ty tx : TE}
def tDSetD (td ty tx : TE) : TE := fun σ H Q => td σ H fun x H1 => ∃ a, x = .ref a ∧ IsD H1 a ∧ ty σ H1 fun y H2 => tx σ H2 fun z H3 => ∃ kvs k, H3 a = some (.dK kvs) ∧ y = kV k ∧ kvs.length < sizeLine ∧
  (∀ v, valV kvs k = some v → Q v H3) ∧ (valV kvs k = none → Q z (upd H3 a (.dK (putK kvs k z))))
theorem pe_dsetd (ho : PE X o td) (he : PE X e ty) (hf : PE X f tx) (m : M2 X o "setdefault" apos e f cpos) : PE X (.Call (.Attribute o "setdefault" apos) [e, f] [] cpos) (tDSetD td ty tx) := by
  intro pins s σ H Q I h
  refine wpAny_Call_method m.base m.few m.line PySem.F.plainAttrs_dict PySem.F.slot_dict_setdefault PySem.F.type_dict_setdefault (thn (ho pins s σ H _ I h) fun u s1 ⟨x, H1, I1, rx, a, ex, d, q1⟩ => ?_)
  subst ex
  obtain rfl : u = Value.ref a := rx
  obtain ⟨t1, t2, _⟩ := isD_at I1 d
  refine ⟨t1, t2, ?_⟩
  rw [m.trees]
  refine Calls.callWith_builtin rfl (Calls.evalArgs_plain (Calls.spliced_cons (thn (he pins s1 σ H1 _ I1 q1) fun iv s2 ⟨y, H2, I2, ry, q2⟩ =>
    Calls.spliced_cons (thn (hf pins s2 σ H2 _ I2 q2) fun fv s3 ⟨z, H3, I3, rz, kvs, k, ek, ey, hl, q3, q4⟩ => Calls.spliced_nil ?_))))
  subst ey
  obtain ⟨hz, hd, vs, rel, dd⟩ := dk_rd I3.hok (.inl ek)
  have lv : vs.length ≤ sizeLine := by rw [← rel.length]; exact hz
  refine call_meetsIn PySem.F.slot_dict_setdefault dd.typeIs PySem.F.entry_dict_setdefault (PySem.F.args_dict_setdefault_3 _ _ _) (meets_setdefault (mixKind X.prog X.w) (kV_is ry) hd) ⟨vs, dd, lv, fun v hv => ?_, fun hv h' dd' hs => ?_⟩
  · have rr := rel.val k
    rw [hv] at rr
    cases hq : valV kvs k with
    | none => rw [hq] at rr; exact rr.elim
    | some x => rw [hq] at rr; exact ⟨x, H3, I3.tok _, rr, q3 x hq⟩
  · have rr := rel.val k
    rw [hv] at rr
    cases hq : valV kvs k with
    | some x => rw [hq] at rr; exact rr.elim
    | none =>
      have hl2 : (putK kvs k z).length ≤ sizeLine := by have := length_putK kvs k z; omega
      have he' : ∃ q, h'.get? a = some q := let ⟨q, _, _, hq, _⟩ := dd'; ⟨q, hq⟩
      exact ⟨z, _, d_write I3 (by rw [ek]; exact True.intro) hs he' (dk_new hl2 hd (rel.put k rz) dd'), rz, q4 hq⟩
def tDispT (tk tv : TE) : TE := fun σ H Q => ∀ p, H p = none → tk σ (upd H p (.dT [])) fun x H1 => tv σ H1 fun y H2 => H2 p = some (.dT []) ∧ ∃ b ks, x = .ref b ∧ H2 b = some (.tup (ks.map kV)) ∧ Q (.ref p) (upd H2 p (.dT [(ks, y)]))
theorem pe_dispT {pos : Pos} {k v : Expr} {tk tv : TE} (hu : X.A.units < cLine) (hk : PE X k tk) (hv : PE X v tv) : PE X (.Dict [some k] [v] pos) (tDispT tk tv) := by
  intro pins s σ H Q I q
  have hn := I.hok.fresh (Nat.le_refl s.heap.objs.size)
  have I1 := I.laid (a := s.heap.objs.size) (o := .dT []) (h' := s.heap.push { cls := .type "dict", data := .dict #[] }) (t' := s.toks) (fun _ _ q => Heap.get?_push_of_some _ q) (Nat.le_refl _) (dt_empty s.heap I.big)
  have hall : ([some k] : List (Option Expr)).all (·.isSome) = true := rfl
  have hl : ([some k] : List (Option Expr)).length = [v].length := rfl
  rw [arm_eval_Dict, zip_pairTrees [some k] [v] X.env pos hall hl, dictDisplay_pairs _ (fun z => by
    have := pairTrees_length [some k] [v] X.env pos hall hl
    rw [z] at this; cases this) (by rw [pairTrees_length [some k] [v] X.env pos hall hl]; show 1 < 17; decide)]
  refine wpAny_bind (wpAny_standAt (wpAny_bind ?_))
  unfold subDict
  refine wpAny_bind (wpAny_alloc ?_)
  refine wpAny_bind (wpAny_holding ?_)
  rw [if_pos (by rw [pairTrees_length [some k] [v] X.env pos hall hl]; show 1 ≤ 15; decide)]
  have hp : PPs X pos [some k] [v] [(tk, tv)] := pps_cons hk hv pps_nil
  refine wpAny_bind (thn (hp pins _ σ _ (fun ps H2 => match ps with | [(x, y)] => H2 s.heap.objs.size = some (.dT []) ∧ ∃ b ks, x = .ref b ∧ H2 b = some (.tup (ks.map kV)) ∧ Q (.ref s.heap.objs.size) (upd H2 s.heap.objs.size (.dT [(ks, y)])) | _ => False) I1 (q _ hn)) fun ws s2 ⟨ps, H2, I2, rel, q2⟩ => ?_)
  cases rel with
  | nil => exact False.elim q2
  | @cons p0 w0 ps' ws' r0 rt =>
    cases rt with
    | cons r1 rt1 => exact False.elim q2
    | nil =>
      obtain ⟨e, b, ks, eb, hb, q3⟩ := q2
      obtain ⟨x0, y0⟩ := p0
      obtain ⟨kv, vv⟩ := w0
      cases eb
      cases (show kv = Value.ref b from r0.1)
      obtain ⟨z, hd, xs, rx, dd⟩ := dt_of I2.hok e
      cases rx
      refine wpAny_holding (wpAny_bind ?_)
      rw [List.forIn_cons]
      refine wpAny_bind (wpAny_bind (wpAny_dictSet_heap (knd := tupleKind (mixKind X.prog X.w)) (k := ks) (xs := []) (show (tupleKind (mixKind X.prog X.w)).room X.A from hu) (key_of I2.hok hb) dd (fun h' dd' hs => wpAny_pure ?_) (Nat.zero_le _)))
      dsimp only
      rw [List.forIn_nil]
      refine wpAny_pure (wpAny_pure (wpAny_pure (wpAny_pure ?_)))
      obtain ⟨q', es, ep, hq, h2, h3, h4, _, h5⟩ := dd'
      have new : ObjOk X.prog X.w (upd H2 s.heap.objs.size (.dT [(ks, y0)])) h' s.heap.objs.size (.dT [(ks, y0)]) := by
        refine ⟨by show 1 ≤ sizeLine; decide, hd, _, (KT.put (.nil : KT H2 [] []) ks hb r0.2).keeps fun c ys ec => ?_, q', es, ep, hq, h2, h3, h4, h5⟩
        rw [upd_ne (ne_of ec e (fun z => nomatch z))]
        exact ec
      exact ⟨.ref s.heap.objs.size, _, d_write I2 (by rw [e]; exact True.intro) hs ⟨q', hq⟩ new, rfl, q3⟩
end
end L2
set_option Elab.async false
set_option linter.all false
set_option maxRecDepth 100000
set_option maxHeartbeats 4000000
namespace L2
open PySem PySem.Spec PyProof.Rows
section
variable {X : Cx}
def tLRg (ta : TA) : TE := fun σ H Q => ta σ H fun vs H1 => ∃ lo hi : Int, vs = [.int lo, .int hi] ∧ (-(2 ^ 62) ≤ lo ∧ lo < 2 ^ 62 ∧ -(2 ^ 62) ≤ hi ∧ hi < 2 ^ 62) ∧ (hi - lo).toNat ≤ 100000 ∧ ∀ l, H1 l = none → Q (.ref l) (upd H1 l (.lst ((List.range (hi - lo).toNat).map fun (i : Nat) => V.int (lo + i))))
theorem items_ints {lo : Int} {n : Nat} {acc : Array Value} (h : ItemsOf (fun i v => ∃ t, v = .int (lo + i * 1) t) acc n) : Vals ((List.range n).map fun (i : Nat) => V.int (lo + i)) acc.toList := by
  obtain ⟨hs, hv⟩ := h
  have key : ∀ (l : List Value) (m : Nat), (∀ (j : Nat) (v : Value), l[j]? = some v → ∃ t, v = .int (lo + ((m + j : Nat) : Int)) t) → Vals ((List.range' m l.length).map fun (i : Nat) => V.int (lo + i)) l := by
    intro l
    induction l with
    | nil => intro m _; exact .nil
    | cons v l ih =>
      intro m hq
      rw [List.length_cons, List.range'_succ, List.map_cons]
      refine .cons ?_ (ih (m + 1) fun j u hu => ?_)
      · obtain ⟨t, e⟩ := hq 0 v rfl
        exact ⟨t, by simpa using e⟩
      · obtain ⟨t, e⟩ := hq (j + 1) u (by simpa using hu)
        exact ⟨t, by rw [e, show m + (j + 1) = m + 1 + j by omega]⟩
  have := key acc.toList 0 fun j v hj => by
    obtain ⟨t, e⟩ := hv j v (by rw [← Array.getElem?_toList]; exact hj)
    exact ⟨t, by rw [e]; simp⟩
  rw [Array.length_toList, hs, ← List.range_eq_range'] at this
  exact this
theorem pe_listrange {a b : Expr} {ta : TA} {p p' pos pos' : Pos} (hc : X.A.handled = none) (hg : Gl X "list") (hm : X.mg "list" = none) (hg' : Gl X "range") (hm' : X.mg "range" = none) (ha : PA X [a, b] ta)
    (hs : starEach [a, b] X.env = [(false, eval a X.env), (false, eval b X.env)] := by rfl) (hs2 : starEach [b] X.env = [(false, eval b X.env)] := by rfl) : PE X (.Call (.Name "list" p) [.Call (.Name "range" p') [a, b] [] pos'] [] pos) (tLRg ta) := by
  intro pins s σ H Q I h
  refine wpAny_Call_Name_kw (ld_blt I hg hm bt_list ?_)
  refine PyProof.Rows.callWith_type1 ?_ rfl rfl
  rw [show starEach [.Call (.Name "range" p') [a, b] [] pos'] X.env = [(false, eval (.Call (.Name "range" p') [a, b] [] pos') X.env)] from rfl]
  show wpAny _ _ (spliced [(false, eval (.Call (.Name "range" p') [a, b] [] pos') X.env)]) _ _ s
  refine Calls.spliced_cons ?_
  refine Call_ (ld_blt I hg' hm' boot_range (PyProof.Rows.callWith_type1 (thn (ha pos' pins s σ H _ I h) fun us s1 ⟨vs, H1, I1, r1, q1⟩ => ?_) (by rw [hs, hs2]) (by rw [hs2]; rfl)))
  obtain ⟨lo, hi, e, ⟨h1, h2, h3, h4⟩, hz, q⟩ := q1
  subst e
  cases r1 with
  | cons r rr =>
    cases rr with
    | cons r' rr =>
      cases rr
      obtain ⟨t, rfl⟩ := r
      obtain ⟨t', rfl⟩ := r'
      refine call_range_2 (Calls.spliced_nil ?_)
      have e2 : Builtin.Range.rangeSize lo hi 1 = (((hi - lo).toNat : Nat) : Int) := by rw [rangeSize_one]; split <;> omega
      refine call_list_range (n := (hi - lo).toNat) hc (IsRange.new ..) (small_one h1 h2 h3 h4) e2 (by omega) fun h' tk acc c k e it => ?_
      have kp : ∀ b u, s1.heap.get? b = some u → h'.get? b = some u := fun b u e => k b u (Heap.get?_push_of_some _ e)
      simp only [Heap.size_push] at e
      have hp : s1.heap.objs.size ≤ s1.heap.objs.size + 1 := Nat.le_succ _
      have sl : (100000 : Nat) ≤ sizeLine := by decide
      refine ⟨.ref (s1.heap.objs.size + 1), _, I1.laid (t' := tk) kp hp (show ObjOk X.prog X.w _ h' _ (.lst ((List.range (hi - lo).toNat).map fun (i : Nat) => V.int (lo + i))) from ⟨by rw [List.length_map, List.length_range]; omega, acc.toList, c, items_ints it, e⟩), ?_, q _ (I1.hok.fresh hp)⟩
      show RelV (.ref _) _
      simp only [Heap.size_push]
      rfl
end
theorem comp_enum {K : PySem.W.Frag} {a : Addr} {xs : List V} {g : TG} {tt : TT} {te : TE} {D : Addr} {σ : St} {H : Hp} {R : Hp → Prop} (Pv : Nat → St → Hp → Prop) (h0 : Pv 0 σ H) (hl : ∀ i σ H, i ≤ xs.length → Pv i σ H → SqL K H a xs)
    (hs : ∀ i x p σ H, xs[i]? = some x → Pv i σ H → H p = none → g (.ref p) σ (upd H p (.tup [.int i, x])) fun σ2 H2 => tt σ2 H2 fun b H3 => if b = true then te σ2 H3 fun y H4 => ∃ ys, H4 D = some (.lst ys) ∧ ys.length < sizeLine ∧ Pv (i + 1) σ2 (upd H4 D (.lst (ys ++ [y]))) else Pv (i + 1) σ2 H3)
    (hd : ∀ σ H, Pv xs.length σ H → R H) : cLoop (Itn K a) g tt te D σ H R := by
  refine ⟨fun i m σ H => m = xs.length - i ∧ i ≤ xs.length ∧ Pv i σ H, ⟨xs.length, by simp, Nat.zero_le _, h0⟩, ?_⟩
  rintro i m σ H ⟨rfl, hi, p⟩
  have q := hl i σ H hi p
  by_cases hlt : i < xs.length
  · refine .inr ⟨⟨xs, xs[i], q, by simp [hlt]⟩, Pv (i + 1), fun σ' H' p' => ⟨xs.length - (i + 1), by omega, rfl, hlt, p'⟩, fun x H' y => ?_⟩
    obtain ⟨z, pa, hz, hn, rfl, rfl⟩ := y
    exact hs i z pa σ H (hz xs q) p hn
  · have e : i = xs.length := by omega
    subst e
    exact .inl ⟨⟨xs, q, Nat.le_refl _⟩, hd σ H p⟩
theorem comp_enumT {K : PySem.W.Frag} {a : Addr} {xs : List V} {g : TG} {tt : TT} {te : TE} {D : Addr} {σ : St} {H : Hp} {R : Hp → Prop} (Pv : Nat → St → Hp → Prop) (h0 : Pv 0 σ H) (hl : ∀ i σ H, i ≤ xs.length → Pv i σ H → SqT K H a xs)
    (hs : ∀ i x p σ H, xs[i]? = some x → Pv i σ H → H p = none → g (.ref p) σ (upd H p (.tup [.int i, x])) fun σ2 H2 => tt σ2 H2 fun b H3 => if b = true then te σ2 H3 fun y H4 => ∃ ys, H4 D = some (.lst ys) ∧ ys.length < sizeLine ∧ Pv (i + 1) σ2 (upd H4 D (.lst (ys ++ [y]))) else Pv (i + 1) σ2 H3)
    (hd : ∀ σ H, Pv xs.length σ H → R H) : cLoop (ItnT K a) g tt te D σ H R := by
  refine ⟨fun i m σ H => m = xs.length - i ∧ i ≤ xs.length ∧ Pv i σ H, ⟨xs.length, by simp, Nat.zero_le _, h0⟩, ?_⟩
  rintro i m σ H ⟨rfl, hi, p⟩
  have q := hl i σ H hi p
  by_cases hlt : i < xs.length
  · refine .inr ⟨⟨xs, xs[i], q, by simp [hlt]⟩, Pv (i + 1), fun σ' H' p' => ⟨xs.length - (i + 1), by omega, rfl, hlt, p'⟩, fun x H' y => ?_⟩
    obtain ⟨z, pa, hz, hn, rfl, rfl⟩ := y
    exact hs i z pa σ H (hz xs q) p hn
  · have e : i = xs.length := by omega
    subst e
    exact .inl ⟨⟨xs, q, Nat.le_refl _⟩, hd σ H p⟩
theorem whileM {c : TT} {tb : TS} {D : Ends} {σ : St} {H : Hp} (W : Nat → St → Hp → Prop) (h0 : ∃ m, W m σ H)
    (hs : ∀ m σ H, W m σ H → c σ H fun b H1 => if b = true then tb { D with nx := fun σ' H' => ∃ m', m' < m ∧ W m' σ' H', ct := fun σ' H' => ∃ m', m' < m ∧ W m' σ' H', bk := D.nx } σ H1 else D.nx σ H1)
    (mono : ∀ σ H Q Q', (∀ b H1, Q b H1 → Q' b H1) → c σ H Q → c σ H Q') : tWhile c tb D σ H := by
  refine ⟨W, h0, fun m σ H w => mono σ H _ _ (fun b H1 q => ?_) (hs m σ H w)⟩
  cases b with
  | true => exact ⟨_, fun σ' H' p => p, q⟩
  | false => exact q
end L2
set_option Elab.async false
set_option linter.all false
set_option maxRecDepth 100000
set_option maxHeartbeats 4000000
namespace L2
open PySem PySem.Spec PyProof.Rows
structure FunC (K : PySem.W.Frag) (x qual : Str) (st : Stmt) (f : Addr) (fd : FuncData) (cd : Value) : Prop where
  ex : ∃ (oc : Value) (od : Option Addr) (dV kV doc pm : Value) (an : Option Addr) (ct : Value) (osl : Array (Option Value)),
    fd = PySem.W.fnOf x qual (defArgs st) (defBody st) (defScope st) dV kV doc pm an cd ct ∧ K.lookup f = some ⟨oc, od, .func fd, osl⟩ ∧ PySem.W.codeIn K cd qual = true
  kp : PySem.W.keepIn K (.ref f) = true
section
variable {P : Program} {w : World} {K : PySem.W.Frag} {mg : Str → Option Value} {base : Heap}
theorem FunC.ok {x qual : Str} {st : Stmt} {f : Addr} {fd : FuncData} {cd : Value} {N ps : List Str} {k : Nat} {sp : Sp} (F : FunC K x qual st f fd cd) (S : FnScope N ps (defScope st)) (len : ∀ vs H Q E, sp vs H Q E → vs.length = ps.length)
    (hbody : ∀ (A : Around) (outer : List Env) (s : Shared) (H : Hp) (vs : List V) (Q : VK) (E : XK), Room k (A.deeper (envOfC qual (defScope st) s.heap.objs.size f cd)) → sp vs H Q E →
      ∃ t, PSs (cxOf CX0 P w K mg base N qual (defScope st) f cd A outer s H E).nox (defBody st) t ∧ t { nx := fun _ H' => Q .non H', rt := Q } (start N vs) H) : FnOk P w K mg base CX0 (k + 1) f fd ps sp := by
  obtain ⟨oc, od, dV, kV, doc, pm, an, ct, osl, rfl, lk, hcd⟩ := F.ex
  refine fn_of lk hcd S len fun A outer s H vs Q E hr hsp => ?_
  obtain ⟨t, h, q⟩ := hbody A outer s H vs Q E hr hsp
  exact ⟨t, h.nox, q⟩
theorem FunC.binds {x qual : Str} {st : Stmt} {f : Addr} {fd : FuncData} {cd : Value} {ps : List Str} (F : FunC K x qual st f fd cd)
    (h : ∀ (dV kV doc pm : Value) (an : Option Addr) (ct : Value) (us : List Value), us.length = ps.length → bindArgs (PySem.W.fnOf x qual (defArgs st) (defBody st) (defScope st) dV kV doc pm an cd ct) ⟨us, []⟩ = pure (ps.zip us)) : Binds K fd ps [] := by
  obtain ⟨oc, od, dV, kV, doc, pm, an, ct, osl, rfl, lk, hcd⟩ := F.ex
  exact .all (h dV kV doc pm an ct)
theorem func_mk {x qual : Str} {st : Stmt} {f : Addr} {oc : Value} {od an : Option Addr} {osl : Array (Option Value)} {dV kV doc pm cd ct : Value} (l : K.lookup f = some ⟨oc, od, .func (PySem.W.fnOf x qual (defArgs st) (defBody st) (defScope st) dV kV doc pm an cd ct), osl⟩)
    (c : PySem.W.codeIn K cd qual = true) (k : PySem.W.keepIn K (.ref f) = true) : FunC K x qual st f (PySem.W.fnOf x qual (defArgs st) (defBody st) (defScope st) dV kV doc pm an cd ct) cd := ⟨⟨oc, od, dV, kV, doc, pm, an, ct, osl, rfl, l, c⟩, k⟩
end
section
variable {X : Cx} {pos : Pos} {params : Arguments} {body : Expr} {scope : Scope} {c T : Addr} {clos : List (Str × Addr)} {L : List (Pos × Str)}
theorem pe_lamK (hcode : X.env.code = .ref c) (hC : PySem.W.codeHdIn X.K c T = true) (hB : BltAt X.mg X.base) (hcl : closureFor scope X.env = pure clos) (hdef : defaultsOf params X.env = ([], [])) (hL : (pos, X.env.qual ++ "<lambda>") ∈ L) (ap : Apart L) (hfs : X.ex = []) :
    PE X (.Lambda params body scope pos) (tLam X params body scope clos T L) := fun pins s σ H Q I h => pe_lam hcode (PySem.W.codeHd_of_K I.ok.mod.kin hC) hB hcl hdef hL ap hfs pins s σ H Q I h
theorem codeHd_in {K : PySem.W.Frag} {c T : Addr} {od : Option Addr} {vs : Array Value} {sl : Array (Option Value)} (lc : K.lookup c = some ⟨.type "code", od, .fields vs, sl⟩)
    (e : ((match (vs[11]? : Option Value) with | some (.ref P') => P' == T | _ => false) && (match vs.getD 18 .none with | .str _ _ => true | _ => false) && (match vs.getD 7 .none with | .int _ _ => true | _ => false) &&
      (match vs.getD 9 .none with | .bool _ => true | _ => false) && (match vs.getD 10 .none with | .int _ _ => true | _ => false) && c != T) = true) : PySem.W.codeHdIn K c T = true := by
  unfold PySem.W.codeHdIn
  rw [lc]
  exact e
end
def kvsOf {α κ : Type} (key : α → κ) (xs : List α) : List (κ × V) := xs.zipIdx.map fun p => (key p.1, V.int ((p.2 : Nat) : Int))
section
variable {α κ : Type} [DecidableEq κ] {key : α → κ}
theorem kvsOf_len (xs : List α) : (kvsOf key xs).length = xs.length := by unfold kvsOf; rw [List.length_map, List.length_zipIdx]
theorem kvsOf_snoc (xs : List α) (x : α) : kvsOf key (xs ++ [x]) = kvsOf key xs ++ [(key x, V.int ((xs.length : Nat) : Int))] := by
  unfold kvsOf
  rw [List.zipIdx_append, List.map_append]
  simp
theorem valV_none_of : ∀ {kvs : List (κ × V)} {k : κ}, (∀ p ∈ kvs, p.1 ≠ k) → valV kvs k = none
  | [], _, _ => rfl
  | p :: r, k, h => by rw [valV_neg (h p List.mem_cons_self)]; exact valV_none_of fun q hq => h q (List.mem_cons_of_mem _ hq)
theorem kvsOf_none (inj : ∀ a b, key a = key b → a = b) {xs : List α} {x : α} (h : x ∉ xs) : valV (kvsOf key xs) (key x) = none := by
  refine valV_none_of fun p hp e => h ?_
  unfold kvsOf at hp
  obtain ⟨q, hq, rfl⟩ := List.mem_map.mp hp
  obtain ⟨y, i⟩ := q
  have := (List.mem_zipIdx hq).2.2
  have e' := inj _ _ e
  rw [← e', this]
  exact List.getElem_mem ..
theorem valV_append_none {kvs more : List (κ × V)} {k : κ} (h : valV kvs k = none) : valV (kvs ++ more) k = valV more k := by
  induction kvs with
  | nil => rfl
  | cons p r ih =>
    by_cases e : p.1 = k
    · rw [valV_pos e] at h; cases h
    · rw [valV_neg e] at h
      show valV (p :: (r ++ more)) k = _
      rw [valV_neg e]; exact ih h
theorem valV_append_some {kvs more : List (κ × V)} {k : κ} {v : V} (h : valV kvs k = some v) : valV (kvs ++ more) k = some v := by
  induction kvs with
  | nil => cases h
  | cons p r ih =>
    by_cases e : p.1 = k
    · rw [valV_pos e] at h
      show valV (p :: (r ++ more)) k = _
      rw [valV_pos e]; exact h
    · rw [valV_neg e] at h
      show valV (p :: (r ++ more)) k = _
      rw [valV_neg e]; exact ih h
theorem kvsOf_some (inj : ∀ a b, key a = key b → a = b) : ∀ (n : Nat) {xs : List α} {i : Nat} {x : α}, xs.length = n → xs.Nodup → xs[i]? = some x → valV (kvsOf key xs) (key x) = some (.int ((i : Nat) : Int))
  | 0, xs, i, x, hl, _, h => by
    have := (List.getElem?_eq_some_iff.mp h).1
    omega
  | n + 1, xs, i, x, hl, nd, h => by
    rcases List.eq_nil_or_concat xs with rfl | ⟨ys, y, e⟩
    · simp at hl
    rw [List.concat_eq_append] at e
    subst e
    rw [kvsOf_snoc]
    have hy : y ∉ ys := fun z => ((List.nodup_append.mp nd).2.2 y z y (List.mem_singleton.mpr rfl)) rfl
    by_cases hi : i < ys.length
    · rw [List.getElem?_append_left hi] at h
      exact valV_append_some (kvsOf_some inj n (by simpa using hl) (List.nodup_append.mp nd).1 h)
    · have hb := (List.getElem?_eq_some_iff.mp h).1
      rw [List.length_append] at hb
      have hi2 : i = ys.length := by simp at hb; omega
      subst hi2
      rw [List.getElem?_append_right (Nat.le_refl _), Nat.sub_self] at h
      have := Option.some.inj h
      subst this
      rw [valV_append_none (kvsOf_none inj hy)]
      exact valV_pos rfl
end
structure DictRep (α : Type) where
  Rep : α → V → Hp → Prop
  Num : Hp → Addr → List α → Prop
  same : ∀ {x : α} {v : V} {H H' : Hp}, Rep x v H → KTu H H' → Rep x v H'
  keep : ∀ {H H' : Hp} {D : Addr} {xs : List α}, Num H D xs → H' D = H D → Num H' D xs
  isD : ∀ {H : Hp} {D : Addr} {xs : List α}, Num H D xs → ∃ o, H D = some o ∧ (∀ l, o ≠ .lst l) ∧ (∀ l, o ≠ .tup l)
  there : ∀ {H : Hp} {D : Addr} {xs : List α} {i : Nat} {x : α} {v : V}, Num H D xs → Rep x v H → xs.Nodup → xs[i]? = some x → DGet H D v (some (.int ((i : Nat) : Int)))
  miss : ∀ {H : Hp} {D : Addr} {xs : List α} {x : α} {v : V}, Num H D xs → Rep x v H → x ∉ xs → DGet H D v none
  put : ∀ {H : Hp} {D : Addr} {xs : List α} {x : α} {v : V}, Num H D xs → Rep x v H → x ∉ xs → xs.length < sizeLine → ∃ H', DPut H D v (.int ((xs.length : Nat) : Int)) H' ∧ KB D H H' ∧ Num H' D (xs ++ [x])
  disp : ∀ {X : Cx} {pos kpos cpos : Pos} {x : Str} {i j : Nat}, X.A.units + 1 < cLine → PE X (.Name x kpos) (tVar i) → PE X (.Constant (.int 0) j cpos) (tC (.int 0)) → PE X (.Dict [some (.Name x kpos)] [.Constant (.int 0) j cpos] pos)
    (fun σ H Q => ∃ y v, σ[i]? = some (some v) ∧ Rep y v H ∧ ∀ D H', H D = none → Same H H' → Num H' D [y] → Q (.ref D) H')
theorem num_inj (a b : Nat) (h : (Sum.inl (a : Int) : Key) = Sum.inl (b : Int)) : a = b := by injection h with h; omega
def repI : DictRep Nat where
  Rep := fun x v _ => v = .int (x : Int)
  Num := fun H D xs => H D = some (.dK (kvsOf (fun (x : Nat) => (Sum.inl (x : Int) : Key)) xs))
  same := fun h _ => h
  keep := fun h e => e.trans h
  isD := fun h => ⟨_, h, (fun l z => by cases z), (fun l z => by cases z)⟩
  there := fun {H D xs i x v} h r nd e => by
    subst r
    exact .inl ⟨_, Sum.inl (x : Int), .inl h, rfl, (kvsOf_some num_inj _ rfl nd e).symm⟩
  miss := fun {H D xs x v} h r n => by
    subst r
    exact .inl ⟨_, Sum.inl (x : Int), .inl h, rfl, (kvsOf_none num_inj n).symm⟩
  put := fun {H D xs x v} h r n hl => by
    subst r
    refine ⟨_, DPut.k (k := Sum.inl (x : Int)) h (by rw [kvsOf_len]; exact hl), KB.write, ?_⟩
    rw [upd_same, putK_new _ (kvsOf_none num_inj n), kvsOf_snoc]
  disp := fun {X pos kpos cpos x i j} hu h1 h2 pins s σ H Q I q => by
    obtain ⟨y, v, hv, rfl, q⟩ := q
    refine pe_disp (pps_cons h1 h2 pps_nil) rfl rfl (fun z => nomatch z) (show 1 ≤ 15 by decide) pins s σ H Q I fun p hp => ⟨_, hv, ?_⟩
    refine ⟨upd_same, [(Sum.inl (y : Int), .int 0)], rfl, (show 1 ≤ 15 by decide), q p _ hp ((Same.new hp).kbn hp KB.write) ?_⟩
    rw [upd_same]; rfl
end L2
set_option Elab.async false
set_option linter.all false
set_option maxRecDepth 100000
set_option maxHeartbeats 4000000
namespace L2
open PySem PySem.Spec PyProof.Rows
theorem LamScope.mk' {ps frn : List Str} {scope : Scope} (h1 : scope.kind = .function) (h2 : scope.isCoroutine = false) (h3 : scope.isGenerator = false) (h4 : ∀ x ∈ scope.names, x.2 ≠ .cell) (h5 : ∀ x ∈ ps, scope.names.lookup x = some .local) (h6 : ∀ x ∈ frn, scope.names.lookup x = some .free)
    (h7 : ∀ p ∈ scope.names, p.2 = .free → p.1 ∈ frn) (h8 : (ps ++ frn).Nodup) : LamScope ps frn scope := ⟨h1, h2, h3, h4, h5, h6, fun x e => h7 (x, .free) (PySem.mem_of_lookup e) rfl, h8⟩
def FnAt (P : Program) (w : World) (K : PySem.W.Frag) (mg : Str → Option Value) (base : Heap) (k : Nat) (f : Addr) (n : Nat) (sp : Sp) : Prop :=
  ∃ (o : Obj) (fd : FuncData) (ps : List Str), base.get? f = some o ∧ o.data = .func fd ∧ ps.length = n ∧ (∀ us : List Value, us.length = ps.length → bindArgs fd ⟨us, []⟩ = pure (ps.zip us)) ∧ FnOk P w K mg base CX0 k f fd ps sp
theorem FnAt.lam {X : Cx} {σ : St} {D : List Addr} {H : Hp} {base' : Heap} {params : Arguments} {body : Expr} {scope : Scope} {clos : List (Str × Addr)} {c' f : Addr} {ctv : Value} {ps frn : List Str} {fvs : List V} {k : Nat} {sp : Sp} (W : Wide X σ D H base')
    (hf : H f = some (fnO f (lamO X params body scope clos c' ctv))) (hfD : f ∈ D) (hc : H c' = some (cdO c' (X.env.qual ++ "<lambda>"))) (hcD : c' ∈ D) (S : LamScope ps frn scope) (sub : ∀ p ∈ clos, X.env.cells.lookup p.1 = some p.2)
    (vals : Paired (fun (x : Str) (v : V) => ∃ i : Nat, X.N[i]? = some x ∧ σ[i]? = some (some v) ∧ X.env.scope.names.lookup x = some .cell ∧ clos.lookup x = X.env.cells.lookup x) frn fvs)
    (hb : ∀ (us : List Value), us.length = ps.length → bindArgs (PySem.W.kla_fn "<lambda>" (X.env.qual ++ "<lambda>") params body scope clos ((X.mg "__name__").getD .none) (.ref c') ctv) ⟨us, []⟩ = pure (ps.zip us)) (len : ∀ vs H Q E, sp vs H Q E → vs.length = ps.length)
    (hbody : ∀ (A : Around) (outer : List Env) (s : Shared) (H : Hp) (vs : List V) (Q : VK) (E : XK), Room k (A.deeper (PySem.W.envX (X.env.qual ++ "<lambda>") scope s.heap.objs.size f (.ref c') clos)) → sp vs H Q E →
      ∃ t, PE (cxL X.prog X.w X.K X.mg base' (ps ++ frn) (X.env.qual ++ "<lambda>") scope f (.ref c') clos A outer s H) body t ∧ t (vs.map some ++ fvs.map some) H Q) : FnAt X.prog X.w X.K X.mg base' (k + 1) f ps.length sp := by
  have ho : base'.get? f = some (lamO X params body scope clos c' ctv) := W.ext f _ hfD hf
  have hcr : base'.CodeRec (.ref c') (X.env.qual ++ "<lambda>") := W.ext c' _ hcD hc
  have sub' : ∀ x c, clos.lookup x = some c → X.env.cells.lookup x = some c := fun x c e => sub (x, c) (PySem.mem_of_lookup e)
  have C : LamCells base' clos frn fvs := by
    refine ⟨fun x y c h1 h2 => W.inj x y c (sub' x c h1) (sub' y c h2), fun x c h => W.cell x c (sub' x c h), Paired.mapP vals fun x v ⟨i, h1, h2, h3, h4⟩ => ?_⟩
    obtain ⟨c, u, e1, e2, e3⟩ := W.val i x v h1 h2 h3
    exact ⟨c, u, h4.trans e1, e2, e3⟩
  exact ⟨_, _, ps, ho, rfl, rfl, hb, fn_lam ho hcr S C len hbody⟩
theorem retr_same {D : List Addr} {H1 H2 : Hp} (s : Same (untr D H1) H2) : Same H1 (retr D H1 H2) := fun b o e => by
  by_cases hb : b ∈ D
  · rw [retr_in hb]; exact e
  · rw [retr_out hb]; exact s _ _ (by rw [untr_out hb]; exact e)
theorem untr_get {D : List Addr} {H : Hp} {b : Addr} {o : HO} (hD : ∀ a ∈ D, ∃ φ, H a = some (.ext φ)) (e : H b = some o) (hn : ∀ φ, o ≠ .ext φ) : untr D H b = some o := by
  rw [untr_out fun z => ?_]
  · exact e
  · obtain ⟨φ, q⟩ := hD b z
    rw [e] at q
    exact hn φ (Option.some.inj q)
end L2
set_option Elab.async false
set_option linter.all false
set_option maxRecDepth 100000
set_option maxHeartbeats 4000000
namespace L2
open PySem PySem.Spec PyProof.Rows
section
variable {X : Cx}
def tLR1 (ta : TA) : TE := fun σ H Q => ta σ H fun vs H1 => ∃ n : Nat, vs = [.int n] ∧ n ≤ 100000 ∧ ∀ l, H1 l = none → Q (.ref l) (upd H1 l (.lst ((List.range n).map fun (i : Nat) => V.int i)))
theorem pe_listrange1 {a : Expr} {ta : TA} {p p' pos pos' : Pos} (hc : X.A.handled = none) (hg : Gl X "list") (hm : X.mg "list" = none) (hg' : Gl X "range") (hm' : X.mg "range" = none) (ha : PA X [a] ta)
    (hs : starEach [a] X.env = [(false, eval a X.env)] := by rfl) : PE X (.Call (.Name "list" p) [.Call (.Name "range" p') [a] [] pos'] [] pos) (tLR1 ta) := by
  intro pins s σ H Q I h
  refine wpAny_Call_Name_kw (ld_blt I hg hm bt_list ?_)
  refine PyProof.Rows.callWith_type1 ?_ rfl rfl
  rw [show starEach [.Call (.Name "range" p') [a] [] pos'] X.env = [(false, eval (.Call (.Name "range" p') [a] [] pos') X.env)] from rfl]
  show wpAny _ _ (spliced [(false, eval (.Call (.Name "range" p') [a] [] pos') X.env)]) _ _ s
  refine Calls.spliced_cons ?_
  refine Call_ (ld_blt I hg' hm' boot_range (PyProof.Rows.callWith_type1 (thn (ha pos' pins s σ H _ I h) fun us s1 ⟨vs, H1, I1, r1, q1⟩ => ?_) (by rw [hs]; rfl) (by rfl)))
  obtain ⟨n, e, hz, q⟩ := q1
  subst e
  cases r1 with
  | cons r rr =>
    cases rr
    obtain ⟨t, rfl⟩ := r
    refine call_range_1 (Calls.spliced_nil ?_)
    have e2 : Builtin.Range.rangeSize 0 (n : Int) 1 = ((n : Nat) : Int) := by rw [rangeSize_one]; split <;> omega
    refine call_list_range (n := n) hc (IsRange.new ..) (small_one (by decide) (by decide) (by omega) (by omega)) e2 (by omega) fun h' tk acc c k e it => ?_
    have kp : ∀ b u, s1.heap.get? b = some u → h'.get? b = some u := fun b u e => k b u (Heap.get?_push_of_some _ e)
    simp only [Heap.size_push] at e
    have hp : s1.heap.objs.size ≤ s1.heap.objs.size + 1 := Nat.le_succ _
    have sl : (100000 : Nat) ≤ sizeLine := by decide
    have vi := items_ints (lo := 0) it
    rw [show (fun (i : Nat) => V.int (0 + (i : Int))) = fun (i : Nat) => V.int i from funext fun i => by rw [Int.zero_add]] at vi
    refine ⟨.ref (s1.heap.objs.size + 1), _, I1.laid (t' := tk) kp hp (show ObjOk X.prog X.w _ h' _ (.lst ((List.range n).map fun (i : Nat) => V.int i)) from ⟨by rw [List.length_map, List.length_range]; omega, acc.toList, c, vi, e⟩), ?_, q _ (I1.hok.fresh hp)⟩
    show RelV (.ref _) _
    simp only [Heap.size_push]
    rfl
end
section
variable {X : Cx}
end
end L2
set_option Elab.async false
set_option linter.all false
set_option maxRecDepth 100000
set_option maxHeartbeats 4000000
namespace My
open PySem L2
def top (i : Nat) : Stmt := PySem.Challenge.pw_figurejudge_k52_no_two_rooms_alike.main.body.getD i (.Pass ⟨0, 0, 0, 0⟩)
abbrev s_grown_from : Stmt := top 1
abbrev s_rooms_into : Stmt := top 3
abbrev s_split_kind : Stmt := top 4
abbrev s_split_kinds : Stmt := top 5
abbrev s_kinds_of : Stmt := top 6
abbrev s_thinned : Stmt := top 7
abbrev s_head_of : Stmt := top 8
abbrev s_parting_of : Stmt := top 9
abbrev s_l_deck : Stmt := top 11
abbrev s_l_next : Stmt := top 12
abbrev s_l_rooms : Stmt := top 13
abbrev s_l_yes : Stmt := top 14
abbrev s_l_names : Stmt := top 15
abbrev s_l_letters : Stmt := top 16
abbrev s_l_came : Stmt := top 18
abbrev s_l_parting : Stmt := top 19
abbrev s_l_chain : Stmt := top 20
abbrev s_l_machine : Stmt := top 21
abbrev s_law : Stmt := top 22
structure Adr where
  f_grown_from : Addr
  fd_grown_from : FuncData
  c_grown_from : Addr
  f_rooms_into : Addr
  fd_rooms_into : FuncData
  f_split_kind : Addr
  fd_split_kind : FuncData
  f_split_kinds : Addr
  fd_split_kinds : FuncData
  f_kinds_of : Addr
  fd_kinds_of : FuncData
  f_thinned : Addr
  fd_thinned : FuncData
  c_thinned : Addr
  t_thinned : Addr
  f_head_of : Addr
  fd_head_of : FuncData
  f_parting_of : Addr
  fd_parting_of : FuncData
  f_l_deck : Addr
  fd_l_deck : FuncData
  f_l_next : Addr
  fd_l_next : FuncData
  f_l_rooms : Addr
  fd_l_rooms : FuncData
  f_l_yes : Addr
  fd_l_yes : FuncData
  f_l_names : Addr
  fd_l_names : FuncData
  f_l_letters : Addr
  fd_l_letters : FuncData
  f_l_came : Addr
  fd_l_came : FuncData
  f_l_parting : Addr
  fd_l_parting : FuncData
  f_l_chain : Addr
  fd_l_chain : FuncData
  f_l_machine : Addr
  fd_l_machine : FuncData
  f_law : Addr
  fd_law : FuncData
structure Txt (K : PySem.W.Frag) (mg : Str → Option Value) (a : Adr) : Prop where
  F_grown_from : FunC K "grown_from" "grown_from" s_grown_from a.f_grown_from a.fd_grown_from (.ref a.c_grown_from)
  m_grown_from : mg "grown_from" = some (.ref a.f_grown_from)
  k_grown_from : PySem.W.keepIn K (.ref a.f_grown_from) = true
  b_grown_from : Binds K a.fd_grown_from ["first", "many", "onward", "is_yes", "most"] []
  F_rooms_into : Fun K "rooms_into" "rooms_into" s_rooms_into a.f_rooms_into a.fd_rooms_into
  m_rooms_into : mg "rooms_into" = some (.ref a.f_rooms_into)
  k_rooms_into : PySem.W.keepIn K (.ref a.f_rooms_into) = true
  b_rooms_into : Binds K a.fd_rooms_into ["moves", "letter"] []
  F_split_kind : Fun K "split_kind" "split_kind" s_split_kind a.f_split_kind a.fd_split_kind
  m_split_kind : mg "split_kind" = some (.ref a.f_split_kind)
  k_split_kind : PySem.W.keepIn K (.ref a.f_split_kind) = true
  b_split_kind : Binds K a.fd_split_kind ["kind", "some", "kinds", "members"] []
  F_split_kinds : Fun K "split_kinds" "split_kinds" s_split_kinds a.f_split_kinds a.fd_split_kinds
  m_split_kinds : mg "split_kinds" = some (.ref a.f_split_kinds)
  k_split_kinds : PySem.W.keepIn K (.ref a.f_split_kinds) = true
  b_split_kinds : Binds K a.fd_split_kinds ["some", "kinds", "members"] []
  F_kinds_of : Fun K "kinds_of" "kinds_of" s_kinds_of a.f_kinds_of a.fd_kinds_of
  m_kinds_of : mg "kinds_of" = some (.ref a.f_kinds_of)
  k_kinds_of : PySem.W.keepIn K (.ref a.f_kinds_of) = true
  b_kinds_of : Binds K a.fd_kinds_of ["yes", "moves"] []
  F_thinned : FunC K "thinned" "thinned" s_thinned a.f_thinned a.fd_thinned (.ref a.c_thinned)
  h_thinned : PySem.W.codeHdIn K a.c_thinned a.t_thinned = true
  m_thinned : mg "thinned" = some (.ref a.f_thinned)
  k_thinned : PySem.W.keepIn K (.ref a.f_thinned) = true
  b_thinned : Binds K a.fd_thinned ["machine"] []
  F_head_of : Fun K "head_of" "head_of" s_head_of a.f_head_of a.fd_head_of
  m_head_of : mg "head_of" = some (.ref a.f_head_of)
  k_head_of : PySem.W.keepIn K (.ref a.f_head_of) = true
  b_head_of : Binds K a.fd_head_of ["heads", "room"] []
  F_parting_of : Fun K "parting_of" "parting_of" s_parting_of a.f_parting_of a.fd_parting_of
  m_parting_of : mg "parting_of" = some (.ref a.f_parting_of)
  k_parting_of : PySem.W.keepIn K (.ref a.f_parting_of) = true
  b_parting_of : Binds K a.fd_parting_of ["machine", "one", "other"] []
  F_l_deck : Fun K "_law_deck" "_law_deck" s_l_deck a.f_l_deck a.fd_l_deck
  m_l_deck : mg "_law_deck" = some (.ref a.f_l_deck)
  k_l_deck : PySem.W.keepIn K (.ref a.f_l_deck) = true
  b_l_deck : Binds K a.fd_l_deck ["_law_script"] []
  F_l_next : Fun K "_law_next" "_law_next" s_l_next a.f_l_next a.fd_l_next
  m_l_next : mg "_law_next" = some (.ref a.f_l_next)
  k_l_next : PySem.W.keepIn K (.ref a.f_l_next) = true
  b_l_next : Binds K a.fd_l_next ["_law_deck_here", "_law_many"] []
  F_l_rooms : Fun K "_law_rooms" "_law_rooms" s_l_rooms a.f_l_rooms a.fd_l_rooms
  m_l_rooms : mg "_law_rooms" = some (.ref a.f_l_rooms)
  k_l_rooms : PySem.W.keepIn K (.ref a.f_l_rooms) = true
  b_l_rooms : Binds K a.fd_l_rooms ["_law_deck_here", "_law_letters_here", "_law_many"] []
  F_l_yes : Fun K "_law_yes" "_law_yes" s_l_yes a.f_l_yes a.fd_l_yes
  m_l_yes : mg "_law_yes" = some (.ref a.f_l_yes)
  k_l_yes : PySem.W.keepIn K (.ref a.f_l_yes) = true
  b_l_yes : Binds K a.fd_l_yes ["_law_deck_here", "_law_moves"] []
  F_l_names : Fun K "_law_names" "_law_names" s_l_names a.f_l_names a.fd_l_names
  m_l_names : mg "_law_names" = some (.ref a.f_l_names)
  k_l_names : PySem.W.keepIn K (.ref a.f_l_names) = true
  b_l_names : Binds K a.fd_l_names ["_law_cell", "_law_many"] []
  F_l_letters : Fun K "_law_letters" "_law_letters" s_l_letters a.f_l_letters a.fd_l_letters
  m_l_letters : mg "_law_letters" = some (.ref a.f_l_letters)
  k_l_letters : PySem.W.keepIn K (.ref a.f_l_letters) = true
  b_l_letters : Binds K a.fd_l_letters ["_law_base", "_law_many"] []
  F_l_came : Fun K "_law_came" "_law_came" s_l_came a.f_l_came a.fd_l_came
  m_l_came : mg "_law_came" = some (.ref a.f_l_came)
  k_l_came : PySem.W.keepIn K (.ref a.f_l_came) = true
  b_l_came : Binds K a.fd_l_came ["_law_moves"] []
  F_l_parting : Fun K "_law_parting" "_law_parting" s_l_parting a.f_l_parting a.fd_l_parting
  m_l_parting : mg "_law_parting" = some (.ref a.f_l_parting)
  k_l_parting : PySem.W.keepIn K (.ref a.f_l_parting) = true
  b_l_parting : Binds K a.fd_l_parting ["_law_machine_here", "_law_one", "_law_other"] []
  F_l_chain : Fun K "_law_chain" "_law_chain" s_l_chain a.f_l_chain a.fd_l_chain
  m_l_chain : mg "_law_chain" = some (.ref a.f_l_chain)
  k_l_chain : PySem.W.keepIn K (.ref a.f_l_chain) = true
  b_l_chain : Binds K a.fd_l_chain ["_law_deck_here", "_law_letters_here", "_law_most"] []
  F_l_machine : Fun K "_law_machine" "_law_machine" s_l_machine a.f_l_machine a.fd_l_machine
  m_l_machine : mg "_law_machine" = some (.ref a.f_l_machine)
  k_l_machine : PySem.W.keepIn K (.ref a.f_l_machine) = true
  b_l_machine : Binds K a.fd_l_machine ["_law_deck_here", "_law_letters_here", "_law_few", "_law_most"] []
  F_law : Fun K "law" "law" s_law a.f_law a.fd_law
  m_law : mg "law" = some (.ref a.f_law)
  z_tuple : mg "tuple" = none
  z_enumerate : mg "enumerate" = none
  z_dict : mg "dict" = none
  z_list : mg "list" = none
  z_range : mg "range" = none
  z_sorted : mg "sorted" = none
  z_len : mg "len" = none
  z_min : mg "min" = none
  z_sum : mg "sum" = none
  z_bool : mg "bool" = none
  z_isinstance : mg "isinstance" = none
def Deck2 (H : Hp) (d : Addr) : Prop := ∃ ms : List Int, H d = some (.lst (ms.map V.int))
theorem Deck2.same {H H' : Hp} {d : Addr} (h : Deck2 H d) (s : Same H H') : Deck2 H' d := let ⟨ms, a⟩ := h; ⟨ms, s _ _ a⟩
theorem Deck2.kb {H H' : Hp} {d e : Addr} (h : Deck2 H d) (s : KB e H H') (n : d ≠ e) : Deck2 H' d := let ⟨ms, a⟩ := h; ⟨ms, s _ _ a n⟩
theorem Deck2.is {H : Hp} {d : Addr} (h : Deck2 H d) : ∃ xs, H d = some (.lst xs) := let ⟨ms, a⟩ := h; ⟨_, a⟩
theorem Deck2.ne {H : Hp} {d e : Addr} (h : Deck2 H d) (n : H e = none) : d ≠ e := let ⟨ms, a⟩ := h; ne_of_none a n
def spDeck2 (K : PySem.W.Frag) : Sp := fun vs H Q _ => ∃ (a : Addr) (ns : List Int), vs = [.ref a] ∧ SqL K H a (ns.map V.int) ∧ ns.length ≤ 63 ∧
  ∀ (D : Addr) (H' : Hp), H D = none → Same H H' → Deck2 H' D → Q (.ref D) H'
def spNext2 : Sp := fun vs H Q _ => ∃ (d : Addr) (m : Int), vs = [.ref d, .int m] ∧ Deck2 H d ∧ 0 < m ∧ ∀ (r : Int) (H' : Hp), 0 ≤ r → r < m → KB d H H' → Deck2 H' d → Q (.int r) H'
section
variable {P : Program} {w : World} {K : PySem.W.Frag} {mg : Str → Option Value} {base : Heap}
theorem sc_l_next : FnScope ["_law_deck_here", "_law_many"] ["_law_deck_here", "_law_many"] (defScope s_l_next) := ⟨rfl, rfl, rfl, by decide +kernel, rfl, by decide +kernel, by decide +kernel⟩
theorem ok_l_next {a : Adr} (T : Txt K mg a) : FnOk P w K mg base CX0 1 a.f_l_next a.fd_l_next ["_law_deck_here", "_law_many"] spNext2 := by
  refine T.F_l_next.ok sc_l_next (fun vs H Q E h => ?_) (fun cdv A outer s H vs Q E hr h => ?_)
  · obtain ⟨d, m, rfl, _⟩ := h
    rfl
  · obtain ⟨d, m, rfl, ⟨ms, hd⟩, hm, k⟩ := h
    refine ⟨_, (pss_cons (ps_if (pt_cmpR op_eq (pe_callB (call_lenK K) (by rfl) T.z_len bt_len (pa_cons (pv 0) pa_nil)) pe_int (nomark _))
      (pss_one (ps_ret pe_int))
      pss_nil)
    (pss_one (ps_ret (pe_op op_modP (pe_bm PySem.F.plainAttrs_list PySem.F.slot_list_pop PySem.F.type_list_pop mt_popAt (pv 0) (pa_cons pe_int pa_nil)) (pv 1))))), ?_⟩
    refine ⟨_, rfl, _, ms.length, rfl, .inl ⟨_, .of hd, by rw [List.length_map]⟩, rfl, _, rfl, ?_⟩
    refine ite2 (fun hl => ?_) (fun hl => ?_)
    · exact k 0 H (Int.le_refl _) hm (KB.refl d H) ⟨ms, hd⟩
    · cases ms with
      | nil => exact absurd (dI (show (((List.nil : List Int).length : Nat) : Int) = 0 from rfl)) hl
      | cons x ms =>
        refine ⟨_, rfl, .inl ⟨rfl, _, .of hd⟩, d, _, 0, 0, V.int x, rfl, rfl, hd, by decide, by decide, (ixN_seq (n := ((x :: ms).map V.int).length) (i := 0) (j := 0) ?_).1, rfl, _, rfl, _, _, rfl, rfl, cpos hm, ?_⟩
        · unfold ixN
          rw [if_pos (Int.le_refl _), if_pos (by rw [List.length_map, List.length_cons]; omega)]
          rfl
        · exact k _ _ (Int.emod_nonneg _ (by omega)) (Int.emod_lt_of_pos _ hm) KB.write ⟨ms, by rw [upd_same]; rfl⟩
theorem sc_l_deck : FnScope ["_law_script", "_law_deck_here", "_law_k", "_law_cell", "_law_j", "_law_number"] ["_law_script"] (defScope s_l_deck) := ⟨rfl, rfl, rfl, by decide +kernel, rfl, by decide +kernel, by decide +kernel⟩
theorem cutTake (ms : List Int) (n : Nat) : cutV (ms.map V.int) none (some (n : Int)) = (ms.take n).map V.int := by
  unfold cutV
  rw [show HT.sIx (ms.map V.int).length 0 none = 0 from rfl, HT.sIx_nat]
  rw [List.drop_zero, List.length_map, Nat.sub_zero, ← List.map_take]
  congr 1
  by_cases h : n ≤ ms.length
  · rw [Nat.min_eq_left h]
  · rw [Nat.min_eq_right (by omega), List.take_of_length_le (Nat.le_refl _), List.take_of_length_le (by omega)]
theorem ok_l_deck {a : Adr} (T : Txt K mg a) : FnOk P w K mg base CX0 1 a.f_l_deck a.fd_l_deck ["_law_script"] (spDeck2 K) := by
  refine T.F_l_deck.ok sc_l_deck (fun vs H Q E h => ?_) (fun cdv A outer s H vs Q E hr h => ?_)
  · obtain ⟨a, ns, rfl, _⟩ := h
    rfl
  · obtain ⟨sa, ns, rfl, hS, hns, k⟩ := h
    refine ⟨_, (pss_cons (ps_set (i := 1) sc_l_deck.nd rfl (Or.inl rfl) (pe_lst pa_nil))
    (pss_cons (ps_for PassesOwn.never rfl (pi_range1 rfl T.z_range (pa_cons (pe_callB (call_min2 rfl) (by rfl) T.z_min bt_min (pa_cons pe_int (pa_cons (pe_callB (call_lenK K) (by rfl) T.z_len bt_len (pa_cons (pv 0) pa_nil)) pa_nil))) pa_nil)) (pg_name (i := 2) sc_l_deck.nd rfl (Or.inl rfl))
      (pss_cons (ps_set (i := 3) sc_l_deck.nd rfl (Or.inl rfl) (pe_ix (ix_listK K) (pv 0) (pv 2) (fun _ _ => rfl)))
      (pss_one (ps_if (pt_cmpR op_ge (pv 3) (pe_op op_pow pe_int pe_int) (nomark _))
        (pss_one (ps_for PassesOwn.never rfl (pi_range1 rfl T.z_range (pa_cons pe_int pa_nil)) (pg_name (i := 4) sc_l_deck.nd rfl (Or.inl rfl))
          (pss_one (ps_if (pt_cmpR op_gt (pv 3) pe_int (nomark _))
            (pss_cons (ps_expr (pe_bm PySem.F.plainAttrs_list PySem.F.slot_list_append PySem.F.type_list_append mt_append (pv 1) (pa_cons (pe_op op_modP (pv 3) pe_int) pa_nil)))
            (pss_one (ps_set (i := 3) sc_l_deck.nd rfl (Or.inl rfl) (pe_op op_fdivB (pv 3) pe_int))))
            pss_nil))))
        (pss_cons (ps_set (i := 5) sc_l_deck.nd rfl (Or.inl rfl) (pe_op op_modP (pe_op op_add (pe_op op_add (pe_op op_mul (pe_op op_modP (pv 3) pe_int) pe_int) (pe_op op_mul pe_int (pv 2))) pe_int) pe_int))
        (pss_cons (ps_set (i := 5) sc_l_deck.nd rfl (Or.inl rfl) (pe_op op_modP (pe_op op_add (pe_op op_mul (pv 5) (pe_op op_add (pe_op op_fdivB (pv 5) pe_int) pe_int)) (pe_op op_mul pe_int (pv 2))) pe_int))
        (pss_one (ps_expr (pe_bm PySem.F.plainAttrs_list PySem.F.slot_list_extend PySem.F.type_list_extend mt_extend (pv 1) (pa_cons (pe_lst (pa_cons (pe_op op_modP (pv 5) pe_int) (pa_cons (pe_op op_modP (pe_op op_modP (pe_op op_mul (pv 5) pe_int) pe_int) pe_int) pa_nil))) pa_nil))))))))))
    (pss_cons (ps_for PassesOwn.never rfl (pi_range2 rfl T.z_range (pa_cons (pe_callB (call_lenK K) (by rfl) T.z_len bt_len (pa_cons (pv 1) pa_nil)) (pa_cons pe_int pa_nil))) (pg_name (i := 2) sc_l_deck.nd rfl (Or.inl rfl))
      (pss_cons (ps_set (i := 5) sc_l_deck.nd rfl (Or.inl rfl) pe_int)
      (pss_cons (ps_if (pt_cmpR op_gt (pe_callB (call_lenK K) (by rfl) T.z_len bt_len (pa_cons (pv 0) pa_nil)) pe_int (nomark _))
        (pss_one (ps_set (i := 5) sc_l_deck.nd rfl (Or.inl rfl) (pe_op op_modP (pe_ix (ix_listK K) (pv 0) (pe_op op_modP (pv 2) (pe_callB (call_min2 rfl) (by rfl) T.z_min bt_min (pa_cons pe_int (pa_cons (pe_callB (call_lenK K) (by rfl) T.z_len bt_len (pa_cons (pv 0) pa_nil)) pa_nil)))) (fun _ _ => rfl)) pe_int)))
        pss_nil)
      (pss_cons (ps_set (i := 5) sc_l_deck.nd rfl (Or.inl rfl) (pe_op op_modP (pe_op op_add (pe_op op_add (pe_op op_mul (pv 5) pe_int) (pe_op op_mul pe_int (pv 2))) pe_int) pe_int))
      (pss_cons (ps_set (i := 5) sc_l_deck.nd rfl (Or.inl rfl) (pe_op op_modP (pe_op op_add (pe_op op_mul (pv 5) (pe_op op_add (pe_op op_fdivB (pv 5) pe_int) pe_int)) (pe_op op_mul pe_int (pv 2))) pe_int))
      (pss_one (ps_expr (pe_bm PySem.F.plainAttrs_list PySem.F.slot_list_append PySem.F.type_list_append mt_append (pv 1) (pa_cons (pe_op op_modP (pe_op op_modP (pe_op op_mul (pv 5) pe_int) pe_int) pe_int) pa_nil)))))))))
    (pss_one (ps_ret (pe_slice (sl_listK K) (pv 1) po_none (po_some pe_int))))))), ?_⟩
    refine ⟨by decide, fun d hd => ?_⟩
    have s0 : Same H (upd H d (.lst [])) := Same.new hd
    have lenS : ∀ {H' : Hp}, Same H H' → LenV K (.ref sa) H' ns.length := fun s => .inl ⟨_, s.seq hS, by rw [List.length_map]⟩
    have m31 : ∀ x : Int, 0 ≤ x % 2147483629 ∧ x % 2147483629 < 2147483629 := fun x => ⟨Int.emod_nonneg _ (by decide), Int.emod_lt_of_pos _ (by decide)⟩
    have mul1 : ∀ x y : Int, CMul (x % 2147483629) y := fun x y => .inl (by have := m31 x; constructor <;> omega)
    refine ⟨_, rfl, _, ns.length, rfl, lenS s0, 63, (ns.length : Int), rfl, _, rfl, by split <;> omega, by split <;> omega,
      for_range (fun i σ H' => ∃ (ms : List Int) (v3 v4 v5 v6 : Option V), σ = [some (.ref sa), some (.ref d), v3, v4, v5, v6] ∧ Same H H' ∧ H' d = some (.lst (ms.map V.int)) ∧ ms.length ≤ 60 * i)
        ⟨[], none, none, none, none, rfl, s0, upd_same, by simp⟩ ?_ ?_⟩
    · rintro i σ H1 hi ⟨ms, v3, v4, v5, v6, rfl, s1, e1, hl⟩
      have hi' : i < ns.length := by split at hi <;> omega
      have hi63 : i < 63 := by split at hi <;> omega
      obtain ⟨c, hc⟩ : ∃ c, ns[i]? = some c := ⟨_, List.getElem?_eq_getElem hi'⟩
      refine ⟨_, rfl, _, rfl, sa, _, _, V.int c, rfl, rfl, s1.seq hS, ?_, ?_⟩
      · rw [show (0 : Int) + (i : Int) = (i : Int) by omega]
        exact atI_nat (by rw [List.getElem?_map, hc]; rfl)
      refine ⟨_, rfl, _, _, rfl, rfl, ⟨by decide, by decide, by decide⟩, _, _, rfl, rfl, _, rfl, ?_⟩
      refine ite2 (fun _ => ?_) (fun _ => ?_)
      · refine ⟨(60 : Int), rfl, by decide, by decide, for_range (fun j σ H2 => ∃ (ms : List Int) (c : Int) (v5 v6 : Option V), σ = [some (.ref sa), some (.ref d), some (.int (0 + (i : Int))), some (.int c), v5, v6] ∧ Same H H2 ∧ H2 d = some (.lst (ms.map V.int)) ∧ ms.length ≤ 60 * i + j)
          ⟨ms, c, v5, v6, rfl, s1, e1, hl⟩ ?_ ?_⟩
        · rintro j σ H2 hj ⟨ms, c, v5, v6, rfl, s2, e2, hl2⟩
          have hj' : j < 60 := hj
          refine ⟨_, rfl, _, _, rfl, rfl, _, rfl, ?_⟩
          refine ite2 (fun _ => ?_) (fun _ => ?_)
          · refine ⟨_, rfl, .inl ⟨rfl, _, .of e2⟩, _, rfl, _, _, rfl, rfl, cpos (by decide), d, _, _, rfl, rfl, e2, ?_, ?_⟩
            · rw [List.length_map]; exact Nat.lt_of_lt_of_le (show ms.length < 10000 by omega) (by decide)
            refine ⟨_, rfl, _, _, rfl, rfl, ⟨by decide, by decide⟩, ms ++ [c % 720720], c / 720720, _, _, rfl, s2.kbn hd KB.write, ?_, ?_⟩
            · rw [upd_same, List.map_append]; rfl
            · rw [List.length_append]; show ms.length + 1 ≤ _; omega
          · exact ⟨ms, c, _, _, rfl, s2, e2, by omega⟩
        · rintro σ H2 ⟨ms, c, v5, v6, rfl, s2, e2, hl2⟩
          have hl2' : ms.length ≤ 60 * i + 60 := hl2
          exact ⟨ms, _, _, _, _, rfl, s2, e2, by omega⟩
      · refine ⟨_, rfl, _, _, rfl, rfl, cpos (by decide), _, _, rfl, rfl, .inr (by decide), _, rfl, _, _, rfl, rfl, .inl (by decide), _, _, rfl, rfl, _, _, rfl, rfl, _, _, rfl, rfl, cpos (by decide), ?_⟩
        refine ⟨_, rfl, _, rfl, _, _, rfl, rfl, ⟨by decide, by decide⟩, _, _, rfl, rfl, _, _, rfl, rfl, mul1 _ _, _, rfl, _, _, rfl, rfl, .inl (by decide), _, _, rfl, rfl, _, _, rfl, rfl, cpos (by decide), ?_⟩
        refine ⟨_, rfl, .inl ⟨rfl, _, .of e1⟩, _, rfl, _, _, rfl, rfl, cpos (by decide), _, rfl, _, _, rfl, rfl, .inr (by decide), _, _, rfl, rfl, cpos (by decide), _, _, rfl, rfl, cpos (by decide), by show 2 ≤ sizeLine; decide, fun L hL => ?_⟩
        have ndL : d ≠ L := ne_of_none e1 hL
        refine ⟨d, L, _, _, rfl, rfl, by rw [upd_ne ndL]; exact e1, upd_same, ?_, ?_⟩
        · rw [List.length_map]; exact Nat.le_trans (show ms.length + 2 ≤ 10000 by omega) (by decide)
        refine ⟨ms ++ [?x1, ?x2], _, _, _, _, rfl, (s1.trans (Same.new hL)).kbn hd KB.write, ?eq, ?len⟩
        case eq => rw [upd_same, List.map_append]; rfl
        case len => rw [List.length_append]; show ms.length + 2 ≤ _; omega
    · rintro σ H1 ⟨ms, v3, v4, v5, v6, rfl, s1, e1, hl⟩
      have hl' : ms.length ≤ 3780 := by split at hl <;> omega
      refine ⟨_, rfl, _, ms.length, rfl, .inl ⟨_, .of e1, by rw [List.length_map]⟩, (ms.length : Int), 600, rfl, by omega, for_range (fun j σ H' => ∃ (ms' : List Int) (v3 v4 v5 v6 : Option V), σ = [some (.ref sa), some (.ref d), v3, v4, v5, v6] ∧ Same H H' ∧ H' d = some (.lst (ms'.map V.int)) ∧ ms'.length = ms.length + j)
        ⟨ms, v3, v4, v5, v6, rfl, s1, e1, rfl⟩ ?_ ?_⟩
      · rintro j σ H2 hj ⟨ms', v3, v4, v5, v6, rfl, s2, e2, hl2⟩
        dsimp only [gName]
        refine seq_const ?_
        refine seq_rest (t := tIfS _ _ _) (u := tSeq _ _) (fun σ H' => ∃ (x : Int), σ = [some (.ref sa), some (.ref d), some (.int ((ms.length : Int) + (j : Int))), v4, v5, some (.int x)] ∧ H' = H2) ?_ (fun rest => ?_)
        · rintro σ H3 ⟨x, rfl, rfl⟩
          refine ⟨_, rfl, _, _, rfl, rfl, .inr (by decide), _, rfl, _, _, rfl, rfl, .inl (by decide), _, _, rfl, rfl, _, _, rfl, rfl, _, _, rfl, rfl, cpos (by decide), ?_⟩
          refine ⟨_, rfl, _, rfl, _, _, rfl, rfl, ⟨by decide, by decide⟩, _, _, rfl, rfl, _, _, rfl, rfl, mul1 _ _, _, rfl, _, _, rfl, rfl, .inl (by decide), _, _, rfl, rfl, _, _, rfl, rfl, cpos (by decide), ?_⟩
          refine ⟨_, rfl, .inl ⟨rfl, _, .of e2⟩, _, rfl, _, _, rfl, rfl, .inr (by decide), _, _, rfl, rfl, cpos (by decide), _, _, rfl, rfl, cpos (by decide), d, _, _, rfl, rfl, e2, ?_, ?_⟩
          · rw [List.length_map]; exact Nat.lt_of_lt_of_le (show ms'.length < 10000 by omega) (by decide)
          refine ⟨ms' ++ [?y1], _, _, _, _, rfl, s2.kbn hd KB.write, ?eq2, ?len2⟩
          case eq2 => rw [upd_same, List.map_append]; rfl
          case len2 => rw [List.length_append, hl2]; rfl
        · refine ⟨_, rfl, _, ns.length, rfl, lenS s2, _, _, rfl, rfl, _, rfl, ?_⟩
          refine ite2 (fun hp => ?_) (fun _ => rest _ _ ⟨11, rfl, rfl⟩)
          have hp' : 0 < ns.length := by have := of_decide_eq_true hp; omega
          refine ⟨_, rfl, _, rfl, _, rfl, _, ns.length, rfl, lenS s2, 63, (ns.length : Int), rfl, _, _, rfl, rfl, cpos (by split <;> omega), ?_⟩
          obtain ⟨q, hq1, hq2⟩ : ∃ q : Nat, ((ms.length : Int) + (j : Int)) % (if (ns.length : Int) < 63 then (ns.length : Int) else 63) = (q : Int) ∧ q < ns.length := by
            refine ⟨(((ms.length : Int) + (j : Int)) % (if (ns.length : Int) < 63 then (ns.length : Int) else 63)).toNat, ?_, ?_⟩
            · have := Int.emod_nonneg ((ms.length : Int) + (j : Int)) (show (if (ns.length : Int) < 63 then (ns.length : Int) else 63) ≠ 0 by split <;> omega)
              omega
            · have := Int.emod_nonneg ((ms.length : Int) + (j : Int)) (show (if (ns.length : Int) < 63 then (ns.length : Int) else 63) ≠ 0 by split <;> omega)
              have h2 := Int.emod_lt_of_pos ((ms.length : Int) + (j : Int)) (show (0 : Int) < (if (ns.length : Int) < 63 then (ns.length : Int) else 63) by split <;> omega)
              split at h2 <;> split <;> omega
          obtain ⟨c, hc⟩ : ∃ c, ns[q]? = some c := ⟨_, List.getElem?_eq_getElem hq2⟩
          refine ⟨sa, _, _, V.int c, rfl, rfl, s2.seq hS, ?_, _, _, rfl, rfl, cpos (by decide), rest _ _ ⟨_, rfl, rfl⟩⟩
          rw [hq1]
          exact atI_nat (by rw [List.getElem?_map, hc]; rfl)
      · rintro σ H2 ⟨ms', v3, v4, v5, v6, rfl, s2, e2, hl2⟩
        refine ⟨_, rfl, _, rfl, d, _, rfl, .of e2, fun D hD => ?_⟩
        rw [show (some (600 : Int)) = some ((600 : Nat) : Int) from rfl, cutTake]
        exact k D _ (s2.free hD) (s2.trans (Same.new hD)) ⟨ms'.take 600, upd_same⟩
end
theorem _root_.My.Deck2.nd {H : Hp} {d N : Addr} (h : Deck2 H d) (e : H N = none) : N ≠ d := by
  obtain ⟨ms, a⟩ := h
  exact (ne_of_none a e).symm
theorem Deck2.lo {H H' : Hp} {d N : Addr} (h : Deck2 H' d) (k : KB d H H') (e : H' N = none) : H N = none := by
  have n1 := h.nd e
  cases z : H N with
  | none => rfl
  | some o => have := k N o z n1; rw [e] at this; cases this
theorem Deck2.upd {H : Hp} {d N : Addr} {o : HO} (h : Deck2 H d) (n : N ≠ d) : Deck2 (upd H N o) d := by
  obtain ⟨ms, a⟩ := h
  exact ⟨ms, by rw [upd_ne n.symm]; exact a⟩
theorem Deck2.ktu {H H' : Hp} {d : Addr} (h : Deck2 H d) (k : KB d H H') : KTu H H' := by
  obtain ⟨ms, a⟩ := h
  exact KTu.kb a k
theorem KB.updN {H H' : Hp} {d N : Addr} {o : HO} (k : KB d H H') (e : H N = none) : KB d H (upd H' N o) := fun b p h n => by
  rw [upd_ne (ne_of_none h e)]
  exact k b p h n
theorem toN {r : Int} (h : 0 ≤ r) : ∃ n : Nat, r = (n : Int) := ⟨r.toNat, (Int.toNat_of_nonneg h).symm⟩
end My
set_option Elab.async false
set_option linter.all false
set_option maxRecDepth 100000
set_option maxHeartbeats 4000000
namespace My
open PySem L2
def castI (ds : List Nat) : List Int := ds.map fun (d : Nat) => (d : Int)
theorem castI_at (ds : List Nat) (i : Nat) : (castI ds)[i]? = ds[i]?.map fun (d : Nat) => (d : Int) := by simp [castI]
theorem natItem {ds : List Nat} {i : Nat} {x : V} (h : ((castI ds).map V.int)[i]? = some x) : ∃ n : Nat, x = .int (n : Int) ∧ ds[i]? = some n := by
  obtain ⟨f, rfl, hf⟩ := intItem h
  rw [castI_at] at hf
  cases e : ds[i]? with
  | none => rw [e] at hf; cases hf
  | some n => rw [e] at hf; exact ⟨n, by rw [← Option.some.inj hf], rfl⟩
theorem refItem {rs : List Addr} {i : Nat} {x : V} (h : (rs.map V.ref)[i]? = some x) : ∃ r, x = .ref r ∧ rs[i]? = some r := by
  rw [List.getElem?_map] at h
  cases e : rs[i]? with
  | none => rw [e] at h; cases h
  | some r => rw [e] at h; exact ⟨r, (Option.some.inj h).symm, rfl⟩
theorem take_snoc {α : Type} {xs : List α} {i : Nat} {x : α} (h : xs[i]? = some x) : xs.take (i + 1) = xs.take i ++ [x] := by rw [List.take_add_one, h]; rfl
theorem castI_len (ds : List Nat) : (castI ds).length = ds.length := by simp [castI]
theorem castI_app (xs ys : List Nat) : castI (xs ++ ys) = castI xs ++ castI ys := by simp [castI]
structure Moves (n b : Nat) (mv : List (List Nat)) : Prop where
  len : mv.length = n
  lead : ∀ l ∈ mv, l.length = b ∧ ∀ x ∈ l, x < n
theorem item_at {α : Type} {xs : List α} {i : Nat} (d : α) (h : i < xs.length) : xs[i]? = some (xs.getD i d) := by rw [List.getD_eq_getElem?_getD, List.getElem?_eq_getElem h]; rfl
theorem castI_item {ds : List Nat} {i : Nat} (h : i < ds.length) : ((castI ds).map V.int)[i]? = some (.int (ds.getD i 0 : Nat)) := by
  rw [List.getElem?_map, castI_at, item_at 0 h]; rfl
theorem Moves.row {H : Hp} {n b : Nat} {mv : List (List Nat)} {ps : List Addr} (h : Moves n b mv) (tp : Tups H ps (mv.map castI)) {r : Nat} (hr : r < n) :
    ps[r]? = some (ps.getD r 0) ∧ H (ps.getD r 0) = some (.tup ((castI (mv.getD r [])).map V.int)) ∧ (mv.getD r []).length = b := by
  have lp : ps.length = n := by rw [Paired.length tp, List.length_map, h.len]
  have hp := item_at 0 (show r < ps.length by omega)
  obtain ⟨l', hl', el⟩ := tp.get hp
  have hm := item_at [] (show r < mv.length by rw [h.len]; exact hr)
  rw [List.getElem?_map, hm] at hl'
  have := Option.some.inj hl'
  subst this
  exact ⟨hp, el, (h.lead _ (List.mem_of_getElem? hm)).1⟩
def MachAt (H : Hp) (ma nm : Addr) (bs : List Bool) (mv : List (List Nat)) : Prop := ∃ (ya va : Addr) (ps : List Addr), H ma = some (.tup [.ref nm, .ref ya, .ref va]) ∧ H ya = some (.tup (bs.map V.bl)) ∧ H va = some (.tup (ps.map V.ref)) ∧ Tups H ps (mv.map castI)
theorem MachAt.keep {H H' : Hp} {ma nm : Addr} {bs : List Bool} {mv : List (List Nat)} (h : MachAt H ma nm bs mv) (k : KTu H H') : MachAt H' ma nm bs mv := by
  obtain ⟨ya, va, ps, h1, h2, h3, h4⟩ := h
  exact ⟨ya, va, ps, k _ _ h1, k _ _ h2, k _ _ h3, h4.keep k⟩
theorem boolItem {bs : List Bool} {i : Nat} {x : V} (h : (bs.map V.bl)[i]? = some x) : ∃ c, x = .bl c ∧ bs[i]? = some c := by
  rw [List.getElem?_map] at h
  obtain ⟨c, e, rfl⟩ := Option.map_eq_some_iff.mp h
  exact ⟨c, rfl, e⟩
abbrev kd (ks : List Nat) (r : Nat) : Nat := ks.getD r 0
structure Part (n : Nat) (ks : List Nat) (mss : List (List Nat)) : Prop where
  len : ks.length = n
  lt : ∀ r, r < n → kd ks r < mss.length
  nd : ∀ (k : Nat) (l : List Nat), mss[k]? = some l → l.Nodup
  mem : ∀ (k : Nat) (l : List Nat), mss[k]? = some l → ∀ r, r ∈ l ↔ r < n ∧ kd ks r = k
  full : ∀ k, 2 ≤ k → k < mss.length → ∃ r, r < n ∧ kd ks r = k
def putAll (v : Nat) (l ks : List Nat) : List Nat := l.foldl (fun ks r => ks.set r v) ks
theorem putAll_len (v : Nat) : ∀ (l ks : List Nat), (putAll v l ks).length = ks.length
  | [], _ => rfl
  | r :: l, ks => by
    show (putAll v l (ks.set r v)).length = _
    rw [putAll_len v l, List.length_set]
theorem putAll_snoc (v : Nat) (l ks : List Nat) (r : Nat) : putAll v (l ++ [r]) ks = (putAll v l ks).set r v := by
  unfold putAll
  rw [List.foldl_append]; rfl
theorem kd_set {ks : List Nat} {r v t : Nat} (h : r < ks.length) : kd (ks.set r v) t = if t = r then v else kd ks t := by
  unfold kd
  rw [List.getD_eq_getElem?_getD, List.getD_eq_getElem?_getD]
  by_cases e : t = r
  · subst e; rw [List.getElem?_set_self h, if_pos rfl]; rfl
  · rw [List.getElem?_set_ne (Ne.symm e), if_neg e]
theorem kd_putAll (v : Nat) : ∀ (l ks : List Nat), (∀ r ∈ l, r < ks.length) → ∀ t, kd (putAll v l ks) t = if t ∈ l then v else kd ks t
  | [], _, _, t => by simp [putAll]
  | r :: l, ks, h, t => by
    show kd (putAll v l (ks.set r v)) t = _
    rw [kd_putAll v l (ks.set r v) (fun x hx => by rw [List.length_set]; exact h x (List.mem_cons_of_mem _ hx)), kd_set (h r List.mem_cons_self)]
    by_cases h1 : t ∈ l
    · rw [if_pos h1, if_pos (List.mem_cons_of_mem _ h1)]
    · rw [if_neg h1]
      by_cases h2 : t = r
      · rw [if_pos h2, if_pos (by rw [h2]; exact List.mem_cons_self)]
      · rw [if_neg h2, if_neg (fun z => (List.mem_cons.mp z).elim h2 h1)]
theorem Part.le {n : Nat} {ks : List Nat} {mss : List (List Nat)} (p : Part n ks mss) : mss.length ≤ n + 2 := by
  have h : (List.range' 2 (mss.length - 2)).length ≤ ks.length := by
    refine List.Nodup.length_le_of_subset (List.nodup_range' ..) fun k hk => ?_
    obtain ⟨i, hi, rfl⟩ := List.mem_range'.mp hk
    obtain ⟨r, hr, e⟩ := p.full (2 + 1 * i) (by omega) (by omega)
    rw [← e]
    unfold kd
    rw [List.getD_eq_getElem?_getD, List.getElem?_eq_getElem (by rw [p.len]; exact hr)]
    exact List.getElem_mem ..
  rw [List.length_range', p.len] at h
  omega
theorem Part.split {n : Nat} {ks : List Nat} {mss : List (List Nat)} {k : Nat} {l A B : List Nat} (p : Part n ks mss) (hk : mss[k]? = some l) (nA : A.Nodup) (nB : B.Nodup) (hAB : ∀ r, r ∈ l ↔ r ∈ A ∨ r ∈ B) (dis : ∀ r, r ∈ A → r ∉ B) (b0 : B ≠ []) (a0 : 2 ≤ k → A ≠ []) :
    Part n (putAll mss.length B ks) (mss.set k A ++ [B]) ∧ ∀ t, kd (putAll mss.length B ks) t = if t ∈ B then mss.length else kd ks t := by
  have hkl : k < mss.length := (List.getElem?_eq_some_iff.mp hk).1
  have inB : ∀ r ∈ B, r < n ∧ kd ks r = k := fun r hr => (p.mem k l hk r).mp ((hAB r).mpr (.inr hr))
  have inA : ∀ r ∈ A, r < n ∧ kd ks r = k := fun r hr => (p.mem k l hk r).mp ((hAB r).mpr (.inl hr))
  have hkd := kd_putAll mss.length B ks fun r hr => by rw [p.len]; exact (inB r hr).1
  have ll : (mss.set k A ++ [B]).length = mss.length + 1 := by simp
  have at' : ∀ (j : Nat) (m : List Nat), (mss.set k A ++ [B])[j]? = some m → (j = k ∧ m = A) ∨ (j = mss.length ∧ m = B) ∨ (j ≠ k ∧ mss[j]? = some m) := fun j m e => by
    by_cases h1 : j < mss.length
    · rw [List.getElem?_append_left (by rw [List.length_set]; exact h1)] at e
      by_cases h2 : j = k
      · subst h2
        rw [List.getElem?_set_self h1] at e
        exact .inl ⟨rfl, (Option.some.inj e).symm⟩
      · rw [List.getElem?_set_ne (Ne.symm h2)] at e
        exact .inr (.inr ⟨h2, e⟩)
    · rw [List.getElem?_append_right (by rw [List.length_set]; omega), List.length_set] at e
      have : j - mss.length = 0 := by
        cases h3 : j - mss.length with
        | zero => rfl
        | succ q => rw [h3] at e; simp at e
      rw [this] at e
      exact .inr (.inl ⟨by omega, (Option.some.inj e).symm⟩)
  refine ⟨⟨by rw [putAll_len]; exact p.len, fun r hr => ?_, fun j m e => ?_, fun j m e r => ?_, fun j h2 hj => ?_⟩, hkd⟩
  · rw [ll, hkd]
    have := p.lt r hr
    split <;> omega
  · rcases at' j m e with ⟨_, rfl⟩ | ⟨_, rfl⟩ | ⟨_, e⟩
    · exact nA
    · exact nB
    · exact p.nd j m e
  · rw [hkd]
    rcases at' j m e with ⟨rfl, rfl⟩ | ⟨rfl, rfl⟩ | ⟨nj, e⟩
    · constructor
      · intro hr
        refine ⟨(inA r hr).1, ?_⟩
        rw [if_neg (dis r hr)]; exact (inA r hr).2
      · rintro ⟨hr, hv⟩
        by_cases hb : r ∈ B
        · rw [if_pos hb] at hv; omega
        · rw [if_neg hb] at hv
          exact ((hAB r).mp ((p.mem _ l hk r).mpr ⟨hr, hv⟩)).elim id fun z => absurd z hb
    · constructor
      · intro hr
        exact ⟨(inB r hr).1, if_pos hr⟩
      · rintro ⟨hr, hv⟩
        by_cases hb : r ∈ m
        · exact hb
        · rw [if_neg hb] at hv
          have := p.lt r hr
          omega
    · have hj : j < mss.length := (List.getElem?_eq_some_iff.mp e).1
      rw [p.mem j m e r]
      constructor
      · rintro ⟨hr, hv⟩
        refine ⟨hr, ?_⟩
        rw [if_neg fun hb => nj (by rw [← hv, (inB r hb).2])]; exact hv
      · rintro ⟨hr, hv⟩
        refine ⟨hr, ?_⟩
        by_cases hb : r ∈ B
        · rw [if_pos hb] at hv; omega
        · rw [if_neg hb] at hv; exact hv
  · by_cases hjl : j = mss.length
    · obtain ⟨b, hb⟩ := List.exists_mem_of_ne_nil _ b0
      exact ⟨b, (inB b hb).1, by rw [hkd, if_pos hb, hjl]⟩
    · by_cases hjk : j = k
      · obtain ⟨b, hb⟩ := List.exists_mem_of_ne_nil _ (a0 (hjk ▸ h2))
        exact ⟨b, (inA b hb).1, by rw [hkd, if_neg (dis b hb), (inA b hb).2, hjk]⟩
      · rw [ll] at hj
        obtain ⟨r, hr, e⟩ := p.full j h2 (by omega)
        refine ⟨r, hr, ?_⟩
        rw [hkd, if_neg fun hb => hjk (by rw [← e, (inB r hb).2])]
        exact e
structure Refd (n L : Nat) (ks0 : List Nat) (S : List Nat) (J : List Nat) (ks : List Nat) (mss : List (List Nat)) : Prop where
  part : Part n ks mss
  grow : L ≤ mss.length
  old : ∀ t, t < n → kd ks t = kd ks0 t ∨ (L ≤ kd ks t ∧ kd ks0 t ∈ J)
  iff : ∀ r s, r < n → s < n → (kd ks r = kd ks s ↔ kd ks0 r = kd ks0 s ∧ (kd ks0 r ∈ J → (r ∈ S ↔ s ∈ S)))
theorem Refd.start {n : Nat} {ks S : List Nat} {mss : List (List Nat)} (p : Part n ks mss) : Refd n mss.length ks S [] ks mss :=
  ⟨p, Nat.le_refl _, fun _ _ => .inl rfl, fun r s _ _ => ⟨fun e => ⟨e, fun z => by cases z⟩, fun e => e.1⟩⟩
theorem Refd.cls {n L : Nat} {ks0 S J ks : List Nat} {mss : List (List Nat)} (h : Refd n L ks0 S J ks mss) (lt0 : ∀ r, r < n → kd ks0 r < L) {k : Nat} {l : List Nat} (hk : k < L) (hJ : k ∉ J) (e : mss[k]? = some l) : ∀ r, r ∈ l ↔ r < n ∧ kd ks0 r = k := fun r => by
  rw [h.part.mem k l e r]
  constructor
  · rintro ⟨hr, hv⟩
    refine ⟨hr, ?_⟩
    rcases h.old r hr with z | ⟨z, _⟩
    · rw [← z]; exact hv
    · omega
  · rintro ⟨hr, hv⟩
    refine ⟨hr, ?_⟩
    rcases h.old r hr with z | ⟨_, z⟩
    · rw [z]; exact hv
    · rw [hv] at z; exact absurd z hJ
theorem Refd.whole {n L : Nat} {ks0 S J ks : List Nat} {mss : List (List Nat)} (h : Refd n L ks0 S J ks mss) {k : Nat} (all : ∀ r, r < n → kd ks0 r = k → r ∈ S) : Refd n L ks0 S (J ++ [k]) ks mss := by
  refine ⟨h.part, h.grow, fun t ht => (h.old t ht).imp id fun z => ⟨z.1, List.mem_append_left _ z.2⟩, fun r s hr hs => ?_⟩
  rw [h.iff r s hr hs]
  constructor
  · rintro ⟨e, q⟩
    refine ⟨e, fun hm => ?_⟩
    rcases List.mem_append.mp hm with hm | hm
    · exact q hm
    · have := List.mem_singleton.mp hm
      exact ⟨fun _ => all s hs (by rw [← e]; exact this), fun _ => all r hr this⟩
  · rintro ⟨e, q⟩
    exact ⟨e, fun hm => q (List.mem_append_left _ hm)⟩
theorem Refd.cut {n L : Nat} {ks0 S J ks : List Nat} {mss : List (List Nat)} (h : Refd n L ks0 S J ks mss) (lt0 : ∀ r, r < n → kd ks0 r < L) {k : Nat} {l some A B : List Nat} (hk : k < L) (hJ : k ∉ J) (e : mss[k]? = .some l)
    (hs : ∀ r, r ∈ some ↔ r ∈ S ∧ r < n ∧ kd ks0 r = k) (ns : some.Nodup) (s0 : some ≠ []) (lt : some.length < l.length)
    (hAB : (A = l.filter (fun r => decide (r ∉ some)) ∧ B = some) ∨ (A = some ∧ B = l.filter (fun r => decide (r ∉ some)))) :
    Refd n L ks0 S (J ++ [k]) (putAll mss.length B ks) (mss.set k A ++ [B]) ∧ B ≠ [] := by
  have cl := h.cls lt0 hk hJ e
  have ndl := h.part.nd k l e
  have sub : ∀ r ∈ some, r ∈ l := fun r hr => (cl r).mpr ((hs r).mp hr).2
  have rest0 : l.filter (fun r => decide (r ∉ some)) ≠ [] := fun z => by
    have : l.length ≤ some.length := List.Nodup.length_le_of_subset ndl fun r hr => by
      by_cases hm : r ∈ some
      · exact hm
      · have : r ∈ l.filter (fun r => decide (r ∉ some)) := List.mem_filter.mpr ⟨hr, decide_eq_true hm⟩
        rw [z] at this; cases this
    omega
  have mr : ∀ r, r ∈ l.filter (fun r => decide (r ∉ some)) ↔ r ∈ l ∧ r ∉ some := fun r => by rw [List.mem_filter, decide_eq_true_iff]
  have facts : A.Nodup ∧ B.Nodup ∧ (∀ r, r ∈ l ↔ r ∈ A ∨ r ∈ B) ∧ (∀ r, r ∈ A → r ∉ B) ∧ B ≠ [] ∧ A ≠ [] ∧ (∀ r s, r ∈ B → s ∈ B → (r ∈ S ↔ s ∈ S)) ∧ (∀ r s, r ∈ A → s ∈ A → (r ∈ S ↔ s ∈ S)) ∧ (∀ r s, r ∈ A → s ∈ B → ¬ (r ∈ S ↔ s ∈ S)) := by
    have inS : ∀ r, r ∈ some → r ∈ S := fun r hr => ((hs r).mp hr).1
    have outS : ∀ r, r ∈ l → r ∉ some → r ∉ S := fun r h1 h2 z => h2 ((hs r).mpr ⟨z, (cl r).mp h1⟩)
    rcases hAB with ⟨rfl, rfl⟩ | ⟨rfl, rfl⟩
    · refine ⟨ndl.filter _, ns, fun r => ?_, fun r hr => ((mr r).mp hr).2, s0, rest0, fun r s h1 h2 => ⟨fun _ => inS s h2, fun _ => inS r h1⟩, fun r s h1 h2 => ⟨fun z => absurd z (outS r ((mr r).mp h1).1 ((mr r).mp h1).2), fun z => absurd z (outS s ((mr s).mp h2).1 ((mr s).mp h2).2)⟩, fun r s h1 h2 z => outS r ((mr r).mp h1).1 ((mr r).mp h1).2 (z.mpr (inS s h2))⟩
      rw [mr]
      constructor
      · intro hr
        by_cases hm : r ∈ B
        · exact .inr hm
        · exact .inl ⟨hr, hm⟩
      · rintro (z | z)
        · exact z.1
        · exact sub r z
    · refine ⟨ns, ndl.filter _, fun r => ?_, fun r hr z => ((mr r).mp z).2 hr, rest0, s0, fun r s h1 h2 => ⟨fun z => absurd z (outS r ((mr r).mp h1).1 ((mr r).mp h1).2), fun z => absurd z (outS s ((mr s).mp h2).1 ((mr s).mp h2).2)⟩, fun r s h1 h2 => ⟨fun _ => inS s h2, fun _ => inS r h1⟩, fun r s h1 h2 z => outS s ((mr s).mp h2).1 ((mr s).mp h2).2 (z.mp (inS r h1))⟩
      rw [mr]
      constructor
      · intro hr
        by_cases hm : r ∈ A
        · exact .inl hm
        · exact .inr ⟨hr, hm⟩
      · rintro (z | z)
        · exact sub r z
        · exact z.1
  obtain ⟨nA, nB, un, dis, b0, a0, sB, sA, sAB⟩ := facts
  obtain ⟨p', hkd⟩ := h.part.split e nA nB un dis b0 fun _ => a0
  have inB : ∀ r ∈ B, r < n ∧ kd ks0 r = k := fun r hr => (cl r).mp ((un r).mpr (.inr hr))
  have hg := h.grow
  have ex : ∀ r, r < n → kd ks0 r = k → r ∉ B → r ∈ A := fun r hr hv hb => ((un r).mp ((cl r).mpr ⟨hr, hv⟩)).elim id fun z => absurd z hb
  refine ⟨⟨p', by rw [List.length_append, List.length_set]; omega, fun t ht => ?_, fun r s hr hs' => ?_⟩, b0⟩
  · rw [hkd]
    by_cases hb : t ∈ B
    · rw [if_pos hb]
      exact .inr ⟨hg, by rw [(inB t hb).2]; simp⟩
    · rw [if_neg hb]
      exact (h.old t ht).imp id fun z => ⟨z.1, List.mem_append_left _ z.2⟩
  · rw [hkd, hkd]
    by_cases hb : r ∈ B
    · rw [if_pos hb]
      by_cases hc : s ∈ B
      · rw [if_pos hc]
        exact ⟨fun _ => ⟨by rw [(inB r hb).2, (inB s hc).2], fun _ => sB r s hb hc⟩, fun _ => rfl⟩
      · rw [if_neg hc]
        have := h.part.lt s hs'
        constructor
        · intro z; omega
        · rintro ⟨z1, z2⟩
          have hsA := ex s hs' (by rw [← z1]; exact (inB r hb).2) hc
          exact absurd (z2 (by rw [(inB r hb).2]; simp)).symm (sAB s r hsA hb)
    · rw [if_neg hb]
      by_cases hc : s ∈ B
      · rw [if_pos hc]
        have := h.part.lt r hr
        constructor
        · intro z; omega
        · rintro ⟨z1, z2⟩
          have hrk : kd ks0 r = k := by rw [z1]; exact (inB s hc).2
          exact absurd (z2 (by rw [hrk]; simp)) (sAB r s (ex r hr hrk hb) hc)
      · rw [if_neg hc, h.iff r s hr hs']
        constructor
        · rintro ⟨z1, z2⟩
          refine ⟨z1, fun hm => ?_⟩
          rcases List.mem_append.mp hm with hm | hm
          · exact z2 hm
          · have hrk := List.mem_singleton.mp hm
            exact sA r s (ex r hr hrk hb) (ex s hs' (by rw [← z1]; exact hrk) hc)
        · rintro ⟨z1, z2⟩
          exact ⟨z1, fun hm => z2 (List.mem_append_left _ hm)⟩
theorem Refd.done {n L : Nat} {ks0 S J ks : List Nat} {mss : List (List Nat)} (h : Refd n L ks0 S J ks mss) (all : ∀ r, r ∈ S → kd ks0 r ∈ J) : ∀ r s, r < n → s < n → (kd ks r = kd ks s ↔ kd ks0 r = kd ks0 s ∧ (r ∈ S ↔ s ∈ S)) := fun r s hr hs => by
  rw [h.iff r s hr hs]
  constructor
  · rintro ⟨e, q⟩
    refine ⟨e, ?_⟩
    by_cases hm : kd ks0 r ∈ J
    · exact q hm
    · exact ⟨fun z => absurd (all r z) hm, fun z => absurd (by rw [e]; exact all s z) hm⟩
  · rintro ⟨e, q⟩
    exact ⟨e, fun _ => q⟩
def stp (mv : List (List Nat)) (r a : Nat) : Nat := (mv.getD r []).getD a 0
def run (mv : List (List Nat)) : Nat → List Nat → Nat
  | r, [] => r
  | r, a :: w => run mv (stp mv r a) w
def lang (bs : List Bool) (mv : List (List Nat)) (r : Nat) (w : List Nat) : Bool := bs.getD (run mv r w) false
def Word (B : Nat) (w : List Nat) : Prop := ∀ a ∈ w, a < B
theorem Word.nil (B : Nat) : Word B [] := fun a h => by cases h
theorem Word.cons {B a : Nat} {w : List Nat} (h : a < B) (hw : Word B w) : Word B (a :: w) := fun x hx => (List.mem_cons.mp hx).elim (fun e => e ▸ h) (hw x)
theorem Word.app {B : Nat} {v w : List Nat} (hv : Word B v) (hw : Word B w) : Word B (v ++ w) := fun x hx => (List.mem_append.mp hx).elim (hv x) (hw x)
def Eqv (B : Nat) (bs : List Bool) (mv : List (List Nat)) (r s : Nat) : Prop := ∀ w, Word B w → lang bs mv r w = lang bs mv s w
theorem run_app (mv : List (List Nat)) : ∀ (v w : List Nat) (r : Nat), run mv r (v ++ w) = run mv (run mv r v) w
  | [], _, _ => rfl
  | a :: v, w, r => run_app mv v w (stp mv r a)
theorem Moves.stp {n B : Nat} {mv : List (List Nat)} (m : Moves n B mv) {r a : Nat} (hr : r < n) (ha : a < B) : stp mv r a < n := by
  unfold My.stp
  have h1 : mv[r]? = some (mv.getD r []) := item_at [] (by rw [m.len]; exact hr)
  obtain ⟨h2, h3⟩ := m.lead _ (List.mem_of_getElem? h1)
  have h4 := item_at 0 (show a < (mv.getD r []).length by rw [h2]; exact ha)
  exact h3 _ (List.mem_of_getElem? h4)
theorem Moves.run {n B : Nat} {mv : List (List Nat)} (m : Moves n B mv) : ∀ {w : List Nat} {r : Nat}, r < n → Word B w → My.run mv r w < n
  | [], _, hr, _ => hr
  | a :: w, r, hr, hw => Moves.run m (w := w) (m.stp hr (hw a List.mem_cons_self)) fun x hx => hw x (List.mem_cons_of_mem _ hx)
theorem Eqv.step {B : Nat} {bs : List Bool} {mv : List (List Nat)} {r s a : Nat} (h : Eqv B bs mv r s) (ha : a < B) : Eqv B bs mv (stp mv r a) (stp mv s a) := fun w hw => h (a :: w) (.cons ha hw)
theorem Eqv.symm {B : Nat} {bs : List Bool} {mv : List (List Nat)} {r s : Nat} (h : Eqv B bs mv r s) : Eqv B bs mv s r := fun w hw => (h w hw).symm
structure Hop (n B : Nat) (bs : List Bool) (mv : List (List Nat)) (ks : List Nat) (mss : List (List Nat)) (W : List Nat) : Prop where
  part : Part n ks mss
  sound : ∀ r s, r < n → s < n → Eqv B bs mv r s → kd ks r = kd ks s
  yes : ∀ r s, r < n → s < n → kd ks r = kd ks s → bs.getD r false = bs.getD s false
  hop : ∀ r s, r < n → s < n → kd ks r = kd ks s → ∀ a, a < B → kd ks (stp mv r a) ≠ kd ks (stp mv s a) → kd ks (stp mv r a) ∈ W ∨ kd ks (stp mv s a) ∈ W
  wl : ∀ k ∈ W, k < mss.length
structure Hin (n L : Nat) (mv : List (List Nat)) (ks0 goal : List Nat) (j : Nat) (ks : List Nat) (mss : List (List Nat)) : Prop where
  part : Part n ks mss
  grow : L ≤ mss.length
  old : ∀ t, t < n → kd ks t = kd ks0 t ∨ L ≤ kd ks t
  iff : ∀ r s, r < n → s < n → (kd ks r = kd ks s ↔ kd ks0 r = kd ks0 s ∧ ∀ a, a < j → (stp mv r a ∈ goal ↔ stp mv s a ∈ goal))
theorem Hin.start {n : Nat} {mv : List (List Nat)} {ks goal : List Nat} {mss : List (List Nat)} (p : Part n ks mss) : Hin n mss.length mv ks goal 0 ks mss :=
  ⟨p, Nat.le_refl _, fun _ _ => .inl rfl, fun r s _ _ => ⟨fun e => ⟨e, fun a ha => absurd ha (by omega)⟩, fun e => e.1⟩⟩
theorem Hin.next {n L : Nat} {mv : List (List Nat)} {ks0 goal ks S J ks' : List Nat} {mss mss' : List (List Nat)} {j : Nat} (h : Hin n L mv ks0 goal j ks mss) (r : Refd n mss.length ks S J ks' mss') (all : ∀ r, r ∈ S → kd ks r ∈ J)
    (hS : ∀ r, r < n → (r ∈ S ↔ stp mv r j ∈ goal)) : Hin n L mv ks0 goal (j + 1) ks' mss' := by
  have d := r.done all
  have g1 := h.grow
  have g2 := r.grow
  refine ⟨r.part, by omega, fun t ht => ?_, fun a b ha hb => ?_⟩
  · rcases r.old t ht with e | ⟨e, _⟩
    · rw [e]; exact h.old t ht
    · exact .inr (by omega)
  · rw [d a b ha hb, h.iff a b ha hb, hS a ha, hS b hb]
    constructor
    · rintro ⟨⟨e, q⟩, z⟩
      refine ⟨e, fun c hc => ?_⟩
      by_cases hcj : c = j
      · subst hcj; exact z
      · exact q c (by omega)
    · rintro ⟨e, q⟩
      exact ⟨⟨e, fun c hc => q c (by omega)⟩, q j (by omega)⟩
theorem Hop.turn {n B k : Nat} {bs : List Bool} {mv : List (List Nat)} {ks0 ks goal W : List Nat} {mss0 mss : List (List Nat)} (m : Moves n B mv) (h : Hop n B bs mv ks0 mss0 (W ++ [k])) (hg : ∀ r, r ∈ goal ↔ r < n ∧ kd ks0 r = k) (x : Hin n mss0.length mv ks0 goal B ks mss) :
    Hop n B bs mv ks mss (W ++ List.range' mss0.length (mss.length - mss0.length)) := by
  have gr := x.grow
  have old0 : ∀ t, t < n → kd ks t < mss0.length → kd ks t = kd ks0 t := fun t ht hl => (x.old t ht).elim id fun z => by omega
  refine ⟨x.part, fun r s hr hs e => ?_, fun r s hr hs e => h.yes r s hr hs ((x.iff r s hr hs).mp e).1, fun r s hr hs e a ha ne => ?_, fun q hq => ?_⟩
  · refine (x.iff r s hr hs).mpr ⟨h.sound r s hr hs e, fun a ha => ?_⟩
    have e2 := h.sound _ _ (m.stp hr ha) (m.stp hs ha) (e.step ha)
    rw [hg, hg]
    exact ⟨fun z => ⟨m.stp hs ha, by rw [← e2]; exact z.2⟩, fun z => ⟨m.stp hr ha, by rw [e2]; exact z.2⟩⟩
  · have hr' := m.stp hr ha
    have hs' := m.stp hs ha
    have new : ∀ t, t < n → mss0.length ≤ kd ks t → kd ks t ∈ W ++ List.range' mss0.length (mss.length - mss0.length) := fun t ht hl => by
      have := x.part.lt t ht
      exact List.mem_append_right _ (List.mem_range'.mpr ⟨kd ks t - mss0.length, by omega, by omega⟩)
    by_cases h1 : mss0.length ≤ kd ks (stp mv r a)
    · exact .inl (new _ hr' h1)
    by_cases h2 : mss0.length ≤ kd ks (stp mv s a)
    · exact .inr (new _ hs' h2)
    have e1 := old0 _ hr' (by omega)
    have e2 := old0 _ hs' (by omega)
    obtain ⟨e0, q⟩ := (x.iff r s hr hs).mp e
    have qa := q a ha
    rw [hg, hg] at qa
    rw [e1, e2] at ne ⊢
    rcases h.hop r s hr hs e0 a ha ne with z | z
    · rcases List.mem_append.mp z with z | z
      · exact .inl (List.mem_append_left _ z)
      · have zk := List.mem_singleton.mp z
        exact absurd (zk.trans (qa.mp ⟨hr', zk⟩).2.symm) ne
    · rcases List.mem_append.mp z with z | z
      · exact .inr (List.mem_append_left _ z)
      · have zk := List.mem_singleton.mp z
        exact absurd ((qa.mpr ⟨hs', zk⟩).2.trans zk.symm) ne
  · rcases List.mem_append.mp hq with z | z
    · have := h.wl q (List.mem_append_left _ z)
      omega
    · obtain ⟨i, hi, rfl⟩ := List.mem_range'.mp z
      omega
theorem Hop.done {n B : Nat} {bs : List Bool} {mv : List (List Nat)} {ks : List Nat} {mss : List (List Nat)} (m : Moves n B mv) (h : Hop n B bs mv ks mss []) : ∀ r s, r < n → s < n → (kd ks r = kd ks s ↔ Eqv B bs mv r s) := by
  have cong : ∀ r s, r < n → s < n → kd ks r = kd ks s → ∀ a, a < B → kd ks (stp mv r a) = kd ks (stp mv s a) := fun r s hr hs e a ha => by
    by_cases z : kd ks (stp mv r a) = kd ks (stp mv s a)
    · exact z
    · rcases h.hop r s hr hs e a ha z with q | q <;> cases q
  have all : ∀ w r s, r < n → s < n → kd ks r = kd ks s → Word B w → lang bs mv r w = lang bs mv s w := by
    intro w
    induction w with
    | nil => intro r s hr hs e _; exact h.yes r s hr hs e
    | cons a w ih =>
      intro r s hr hs e hw
      have ha := hw a List.mem_cons_self
      exact ih _ _ (m.stp hr ha) (m.stp hs ha) (cong r s hr hs e a ha) fun x hx => hw x (List.mem_cons_of_mem _ hx)
  exact fun r s hr hs => ⟨fun e w hw => all w r s hr hs e hw, h.sound r s hr hs⟩
def firstK (bs : List Bool) : List Nat := bs.map fun b => if b = true then 1 else 0
def roomsOf (c : Bool) (bs : List Bool) : List Nat := (List.range bs.length).filter fun r => bs.getD r false == c
theorem kd_firstK (bs : List Bool) (r : Nat) (h : r < bs.length) : kd (firstK bs) r = if bs.getD r false = true then 1 else 0 := by
  unfold kd firstK
  rw [List.getD_eq_getElem?_getD, List.getElem?_map, item_at false h]; rfl
theorem mem_roomsOf {c : Bool} {bs : List Bool} {r : Nat} : r ∈ roomsOf c bs ↔ r < bs.length ∧ bs.getD r false = c := by
  unfold roomsOf
  rw [List.mem_filter, List.mem_range, beq_iff_eq]
theorem Hop.start {n B : Nat} {bs : List Bool} {mv : List (List Nat)} (hn : bs.length = n) (m : Moves n B mv) : Hop n B bs mv (firstK bs) [roomsOf false bs, roomsOf true bs] [0, 1] := by
  subst hn
  have k01 : ∀ r, r < bs.length → kd (firstK bs) r = 0 ∨ kd (firstK bs) r = 1 := fun r hr => by
    rw [kd_firstK bs r hr]; split
    · exact .inr rfl
    · exact .inl rfl
  refine ⟨⟨by simp [firstK], fun r hr => ?_, fun k l e => ?_, fun k l e r => ?_, fun k h2 hk => ?_⟩, fun r s hr hs e => ?_, fun r s hr hs e => ?_, fun r s hr hs e a ha ne => ?_, fun k hk => ?_⟩
  · show _ < 2
    rcases k01 r hr with z | z <;> omega
  · match k, e with
    | 0, e => rw [← Option.some.inj e]; exact List.nodup_range.filter _
    | 1, e => rw [← Option.some.inj e]; exact List.nodup_range.filter _
  · match k, e with
    | 0, e =>
      rw [← Option.some.inj e, mem_roomsOf]
      refine and_congr_right fun hr => ?_
      rw [kd_firstK bs r hr]
      cases bs.getD r false <;> simp
    | 1, e =>
      rw [← Option.some.inj e, mem_roomsOf]
      refine and_congr_right fun hr => ?_
      rw [kd_firstK bs r hr]
      cases bs.getD r false <;> simp
  · have : k < 2 := hk
    omega
  · have := e [] (.nil B)
    have e' : bs.getD r false = bs.getD s false := this
    rw [kd_firstK bs r hr, kd_firstK bs s hs, e']
  · rw [kd_firstK bs r hr, kd_firstK bs s hs] at e
    cases h1 : bs.getD r false <;> cases h2 : bs.getD s false <;> rw [h1, h2] at e <;> first | rfl | (exact absurd e (by decide))
  · have := k01 _ (m.stp hr ha)
    rcases this with z | z <;> rw [z] <;> simp
  · have : k = 0 ∨ k = 1 := by simpa using hk
    show k < 2
    omega
def rowGo : List Nat → Nat → Option Nat
  | [], s => some s
  | t :: l, s => if t < s then rowGo l s else if t = s then rowGo l (s + 1) else none
def rowsGo : List (List Nat) → Nat → Nat → Option Nat
  | [], _, s => some s
  | r :: rs, i, s => if i < s then (rowGo r s).bind fun s' => rowsGo rs (i + 1) s' else none
theorem rowGo_app : ∀ (l : List Nat) (t s : Nat), rowGo (l ++ [t]) s = (rowGo l s).bind fun s' => rowGo [t] s'
  | [], _, _ => rfl
  | x :: l, t, s => by
    show rowGo (x :: (l ++ [t])) s = (rowGo (x :: l) s).bind _
    simp only [rowGo]
    by_cases h : x < s
    · rw [if_pos h, if_pos h]; exact rowGo_app l t s
    · rw [if_neg h, if_neg h]
      by_cases h2 : x = s
      · rw [if_pos h2, if_pos h2]; exact rowGo_app l t (s + 1)
      · rw [if_neg h2, if_neg h2]; rfl
theorem rowsGo_app : ∀ (rs : List (List Nat)) (r : List Nat) (i s : Nat), rowsGo (rs ++ [r]) i s = (rowsGo rs i s).bind fun s' => if i + rs.length < s' then rowGo r s' else none
  | [], r, i, s => by
    show (if i < s then (rowGo r s).bind fun s' => some s' else none) = if i + 0 < s then rowGo r s else none
    rw [Nat.add_zero]
    split
    · cases rowGo r s <;> rfl
    · rfl
  | x :: rs, r, i, s => by
    show (if i < s then (rowGo x s).bind fun s' => rowsGo (rs ++ [r]) (i + 1) s' else none) = (if i < s then (rowGo x s).bind fun s' => rowsGo rs (i + 1) s' else none).bind _
    by_cases h : i < s
    · rw [if_pos h, if_pos h]
      cases rowGo x s with
      | none => rfl
      | some s' =>
        show rowsGo (rs ++ [r]) (i + 1) s' = (rowsGo rs (i + 1) s').bind _
        rw [rowsGo_app rs r (i + 1) s']
        congr 1
        funext q
        rw [List.length_cons, show i + 1 + rs.length = i + (rs.length + 1) by omega]
    · rw [if_neg h, if_neg h]; rfl
theorem rowGo_le : ∀ {l : List Nat} {s s' : Nat}, rowGo l s = some s' → s ≤ s'
  | [], s, s', h => by have := Option.some.inj h; omega
  | x :: l, s, s', h => by
    simp only [rowGo] at h
    split at h
    · exact rowGo_le h
    · split at h
      · have := rowGo_le h; omega
      · cases h
def LEq (B : Nat) (f g : List Nat → Bool) : Prop := ∀ w, Word B w → f w = g w
theorem LEq.symm {B : Nat} {f g : List Nat → Bool} (h : LEq B f g) : LEq B g f := fun w hw => (h w hw).symm
theorem LEq.trans {B : Nat} {f g k : List Nat → Bool} (h : LEq B f g) (h2 : LEq B g k) : LEq B f k := fun w hw => (h w hw).trans (h2 w hw)
structure Can (B : Nat) (bs : List Bool) (mv : List (List Nat)) : Prop where
  pos : 0 < bs.length
  mvs : Moves bs.length B mv
  inj : ∀ i j, i < bs.length → j < bs.length → Eqv B bs mv i j → i = j
  go : rowsGo mv 0 1 = some bs.length
  reach : ∀ i, i < bs.length → ∃ w, Word B w ∧ run mv 0 w = i
def runA {α : Type} (on : α → Nat → α) : α → List Nat → α
  | x, [] => x
  | x, a :: w => runA on (on x a) w
theorem runA_app {α : Type} (on : α → Nat → α) : ∀ (v w : List Nat) (x : α), runA on x (v ++ w) = runA on (runA on x v) w
  | [], _, _ => rfl
  | a :: v, w, x => runA_app on v w (on x a)
structure Grown {α : Type} (x0 : α) (on : α → Nat → α) (m : Nat) (xs : List α) (mv : List (List Nat)) : Prop where
  once : xs.Nodup
  first : xs[0]? = some x0
  reach : ∀ x ∈ xs, ∃ w, Word m w ∧ x = runA on x0 w
  row : ∀ (i : Nat) (r : List Nat), mv[i]? = some r → r.length = m ∧ ∃ x, xs[i]? = some x ∧ ∀ (c t : Nat), r[c]? = some t → xs[t]? = some (on x c)
  go : rowsGo mv 0 1 = some xs.length
theorem Grown.mvs {α : Type} {x0 : α} {on : α → Nat → α} {m : Nat} {xs : List α} {mv : List (List Nat)} (g : Grown x0 on m xs mv) (h : mv.length = xs.length) : Moves xs.length m mv := by
  refine ⟨h, fun l hl => ?_⟩
  obtain ⟨i, hi⟩ := List.getElem?_of_mem hl
  obtain ⟨h1, x, _, h2⟩ := g.row i l hi
  refine ⟨h1, fun t ht => ?_⟩
  obtain ⟨c, hc⟩ := List.getElem?_of_mem ht
  exact (List.getElem?_eq_some_iff.mp (h2 c t hc)).1
theorem Grown.run {α : Type} {x0 : α} {on : α → Nat → α} {m : Nat} {xs : List α} {mv : List (List Nat)} (g : Grown x0 on m xs mv) (h : mv.length = xs.length) : ∀ (w : List Nat) (i : Nat) (x : α), xs[i]? = some x → Word m w → xs[run mv i w]? = some (runA on x w)
  | [], _, _, e, _ => e
  | a :: w, i, x, e, hw => by
    have hi := (List.getElem?_eq_some_iff.mp e).1
    have ha := hw a List.mem_cons_self
    have h1 := item_at [] (show i < mv.length by omega)
    obtain ⟨l1, y, ey, h2⟩ := g.row i _ h1
    rw [e] at ey
    have := Option.some.inj ey
    subst this
    have h3 := item_at 0 (show a < (mv.getD i []).length by rw [l1]; exact ha)
    exact Grown.run g h w _ _ (h2 a _ h3) fun z hz => hw z (List.mem_cons_of_mem _ hz)
theorem castI_put (xs : List Nat) (i y : Nat) : ((castI xs).map V.int).set i (.int (y : Nat)) = (castI (xs.set i y)).map V.int := by
  rw [castI, castI, List.map_set, List.map_set]
theorem ixN_at {n i : Nat} (h : i < n) : ixN n (i : Int) = some i := by
  unfold ixN
  rw [if_pos (by omega), if_pos (by omega), Int.toNat_natCast]
end My
set_option Elab.async false
set_option linter.all false
set_option maxRecDepth 100000
set_option maxHeartbeats 4000000
namespace My
open PySem L2
def LsAt (H : Hp) (as : List Addr) (xss : List (List Nat)) : Prop := Paired (fun (b : Addr) (l : List Nat) => H b = some (.lst ((castI l).map V.int))) as xss
theorem LsAt.keep {H H' : Hp} {as : List Addr} {xss : List (List Nat)} (h : LsAt H as xss) (k : ∀ b ∈ as, ∀ o, H b = some o → H' b = some o) : LsAt H' as xss := by
  unfold LsAt at h ⊢
  induction h with
  | nil => exact .nil
  | cons r t ih => exact .cons (k _ List.mem_cons_self _ r) (ih fun b hb => k b (List.mem_cons_of_mem _ hb))
theorem LsAt.at {H : Hp} {as : List Addr} {xss : List (List Nat)} {i : Nat} {b : Addr} (h : LsAt H as xss) (hi : as[i]? = some b) : ∃ l, xss[i]? = some l ∧ H b = some (.lst ((castI l).map V.int)) := paired_get h hi
theorem LsAt.back {H : Hp} : ∀ {as : List Addr} {xss : List (List Nat)} {i : Nat} {l : List Nat}, LsAt H as xss → xss[i]? = some l → ∃ b, as[i]? = some b ∧ H b = some (.lst ((castI l).map V.int))
  | _, _, _, _, .nil, e => by simp at e
  | _, _, 0, _, .cons r _, e => by simp at e; subst e; exact ⟨_, rfl, r⟩
  | _, _, i + 1, _, .cons _ t, e => by
    simp only [List.getElem?_cons_succ] at e ⊢
    exact LsAt.back t e
theorem LsAt.len {H : Hp} {as : List Addr} {xss : List (List Nat)} (h : LsAt H as xss) : as.length = xss.length := Paired.length h
theorem LsAt.snoc {H : Hp} {as : List Addr} {xss : List (List Nat)} {b : Addr} {l : List Nat} (h : LsAt H as xss) (e : H b = some (.lst ((castI l).map V.int))) : LsAt H (as ++ [b]) (xss ++ [l]) := by
  unfold LsAt at h ⊢
  induction h with
  | nil => exact .cons e .nil
  | cons r t ih => exact .cons r ih
theorem LsAt.mem {H : Hp} {as : List Addr} {xss : List (List Nat)} {b : Addr} (h : LsAt H as xss) (hb : b ∈ as) : ∃ l, H b = some (.lst ((castI l).map V.int)) := by
  obtain ⟨i, hi⟩ := List.getElem?_of_mem hb
  obtain ⟨l, _, e⟩ := h.at hi
  exact ⟨l, e⟩
theorem LsAt.set {H : Hp} : ∀ {as : List Addr} {xss : List (List Nat)} {i : Nat} {b : Addr} {l : List Nat}, LsAt H as xss → as.Nodup → as[i]? = some b → LsAt (upd H b (.lst ((castI l).map V.int))) as (xss.set i l)
  | _, _, _, _, _, .nil, _, e => by simp at e
  | a :: as, x :: xss, 0, b, l, .cons r t, nd, e => by
    simp at e; subst e
    refine .cons upd_same (LsAt.keep t fun c hc o q => ?_)
    rw [upd_ne (fun z : c = a => (List.nodup_cons.mp nd).1 (z ▸ hc))]; exact q
  | a :: as, x :: xss, i + 1, b, l, .cons r t, nd, e => by
    simp only [List.getElem?_cons_succ] at e
    refine .cons ?_ (LsAt.set t (List.nodup_cons.mp nd).2 e)
    rw [upd_ne (fun z : a = b => (List.nodup_cons.mp nd).1 (z ▸ List.mem_of_getElem? e))]; exact r
def presI (mv : List (List Nat)) (n x i : Nat) : List (List Nat) := (List.range n).map fun t => (List.range i).filter fun r => stp mv r x == t
theorem presI_at {mv : List (List Nat)} {n x i t : Nat} (h : t < n) : (presI mv n x i)[t]? = some ((List.range i).filter fun r => stp mv r x == t) := by
  unfold presI
  rw [List.getElem?_map, List.getElem?_range h]; rfl
theorem presI_next {mv : List (List Nat)} {n x i : Nat} (h : stp mv i x < n) : presI mv n x (i + 1) = (presI mv n x i).set (stp mv i x) (((List.range i).filter fun r => stp mv r x == stp mv i x) ++ [i]) := by
  have ln : ∀ j, (presI mv n x j).length = n := fun j => by unfold presI; rw [List.length_map, List.length_range]
  refine List.ext_getElem? fun t => ?_
  by_cases ht : t < n
  · rw [presI_at ht]
    by_cases e : t = stp mv i x
    · subst e
      rw [List.getElem?_set_self (by rw [ln]; exact h), List.range_succ, List.filter_append]
      congr 2
      simp
    · rw [List.getElem?_set_ne (Ne.symm e), presI_at ht, List.range_succ, List.filter_append]
      congr 1
      have : (stp mv i x == t) = false := beq_false_of_ne (Ne.symm e)
      simp [this]
  · rw [List.getElem?_eq_none (by rw [ln]; omega), List.getElem?_eq_none (by rw [List.length_set, ln]; omega)]
def spInto (K : PySem.W.Frag) : Sp := fun vs H Q _ => ∃ (va : Addr) (ps : List Addr) (mv : List (List Nat)) (n B x : Nat), vs = [.ref va, .int x] ∧ H va = some (.tup (ps.map V.ref)) ∧ Tups H ps (mv.map castI) ∧ Moves n B mv ∧ x < B ∧ n ≤ 1000 ∧
  ∀ (t : Addr) (as : List Addr) (H' : Hp), H t = none → (∀ b ∈ as, H b = none) → as.Nodup → t ∉ as → Same H H' → H' t = some (.lst (as.map V.ref)) → LsAt H' as (presI mv n x n) → Q (.ref t) H'
section
variable {P : Program} {w : World} {K : PySem.W.Frag} {mg : Str → Option Value} {base : Heap}
theorem sc_rooms_into : FnScope ["moves", "letter", "into", "room", "leads"] ["moves", "letter"] (defScope s_rooms_into) := ⟨rfl, rfl, rfl, by decide +kernel, rfl, by decide +kernel, by decide +kernel⟩
theorem ok_rooms_into {a : Adr} (T : Txt K mg a) : FnOk P w K mg base CX0 1 a.f_rooms_into a.fd_rooms_into ["moves", "letter"] (spInto K) := by
  refine T.F_rooms_into.ok sc_rooms_into (fun vs H Q E h => ?_) (fun cdv A outer s H vs Q E hr h => ?_)
  · obtain ⟨va, ps, mv, n, B, x, rfl, _⟩ := h
    rfl
  · obtain ⟨va, ps, mv, n, B, x, rfl, e3, tp, mvs, hx, hn, k⟩ := h
    refine ⟨_, (pss_cons (ps_setComp (i := 2) (CompScope.mk' (esc := defScope s_rooms_into) (N := ["moves", "letter", "into", "room", "leads"]) (own := ["leads"]) (frn := []) (frj := []) rfl rfl (by decide +kernel)) rfl (pi_tup (pv 0)) (fun _ _ _ _ => (pg_name (i := 0) (show List.Nodup (["leads"] : List Str) by decide +kernel) rfl (Or.inl rfl))) (fun _ _ _ _ => pifs_nil) (fun _ _ _ _ => (pe_lst pa_nil)) sc_rooms_into.nd rfl rfl)
    (pss_cons (ps_for PassesOwn.never rfl (pi_enumT rfl T.z_enumerate (pa_cons (pv 0) pa_nil)) (pg_tup rfl (pgs_cons (pg_name (i := 3) sc_rooms_into.nd rfl (Or.inl rfl)) (pgs_cons (pg_name (i := 4) sc_rooms_into.nd rfl (Or.inl rfl)) pgs_nil)))
      (pss_one (ps_expr (pe_bm PySem.F.plainAttrs_list PySem.F.slot_list_append PySem.F.type_list_append mt_append (pe_ix (ix_listK K) (pv 2) (pe_ix (ix_tupK K) (pv 4) (pv 1) (fun _ _ => rfl)) (fun _ _ => rfl)) (pa_cons (pv 3) pa_nil)))))
    (pss_one (ps_ret (pv 2))))), ?_⟩
    have big : (2000 : Nat) ≤ sizeLine := by decide
    have lps : ps.length = n := by rw [Paired.length tp, List.length_map, mvs.len]
    refine ⟨_, rfl, va, rfl, ⟨_, .of e3⟩, fun L hL => ?_⟩
    refine comp_tup (xs := ps.map V.ref) (fun j σ H' => ∃ (v : Option V) (as : List Addr), σ = [v] ∧ Same H H' ∧ H' L = some (.lst (as.map V.ref)) ∧ as.length = j ∧ (∀ b ∈ as, H b = none) ∧ as.Nodup ∧ L ∉ as ∧ LsAt H' as ((List.range j).map fun _ => []))
      ⟨none, [], ?sg, Same.new hL, upd_same, rfl, fun b hb => (by cases hb), by simp, by simp, .nil⟩ (fun j σ H' _ ⟨_, _, _, s', _⟩ => .of (s' _ _ e3)) ?_ ?_
    case sg => rfl
    · rintro j y σ H1 hy ⟨v, as, rfl, s1, l1, la, fr, nd, nl, ls⟩
      have hj : j < n := by
        have := (List.getElem?_eq_some_iff.mp hy).1
        rw [List.length_map, lps] at this; exact this
      refine ⟨by show 0 ≤ sizeLine; omega, fun b hb => ?_⟩
      have nLb : L ≠ b := ne_of_none l1 hb
      have sb := Same.new (o := .lst []) hb
      have bn : b ∉ as := fun z => by obtain ⟨l, e⟩ := ls.mem z; rw [hb] at e; cases e
      refine ⟨_, sb _ _ l1, by rw [List.length_map]; omega, _, as ++ [b], rfl, (s1.trans sb).kbn hL KB.write, by rw [upd_same, List.map_append]; rfl, by rw [List.length_append, la]; rfl, fun c hc => ?_, ?_, ?_, ?_⟩
      · rcases List.mem_append.mp hc with z | z
        · exact fr c z
        · rw [List.mem_singleton.mp z]; exact s1.free hb
      · rw [List.nodup_append]
        exact ⟨nd, by simp, fun x hx y hy e => bn (by rw [← List.mem_singleton.mp hy, ← e]; exact hx)⟩
      · intro z
        rcases List.mem_append.mp z with z | z
        · exact nl z
        · exact nLb (List.mem_singleton.mp z)
      · rw [List.range_succ, List.map_append]
        refine LsAt.snoc (ls.keep fun c hc o q => ?_) ?_
        · rw [upd_ne (fun z : c = L => nl (z ▸ hc))]; exact sb _ _ q
        · rw [upd_ne nLb.symm, upd_same]; rfl
    rintro σ H1 ⟨v, as, rfl, s1, l1, la, fr, nd, nl, ls⟩
    rw [List.length_map, lps] at la ls
    have e0 : ((List.range n).map fun _ => ([] : List Nat)) = presI mv n x 0 := by unfold presI; simp
    rw [e0] at ls
    dsimp only [gName]
    refine ⟨_, rfl, _, rfl, ⟨_, .of (s1 _ _ e3)⟩, ?_⟩
    refine for_enumT (xs := ps.map V.ref) (fun i σ H' => ∃ v3 v4 : Option V, σ = [some (.ref va), some (.int (x : Nat)), some (.ref L), v3, v4] ∧ Same H H' ∧ H' L = some (.lst (as.map V.ref)) ∧ LsAt H' as (presI mv n x i))
      ⟨none, none, rfl, s1, l1, ls⟩ (fun i σ H' _ ⟨_, _, _, s', _⟩ => .of (s' _ _ e3)) ?_ ?_
    · rintro i y p σ H2 hy ⟨v3, v4, rfl, s2, l2, ls2⟩ hp
      obtain ⟨q, rfl, eq⟩ := refItem hy
      have hi : i < n := by rw [← lps]; exact (List.getElem?_eq_some_iff.mp eq).1
      obtain ⟨r1, r2, r3⟩ := mvs.row (tp.keep s2.kt) hi
      rw [r1] at eq
      have eq' := Option.some.inj eq
      subst eq'
      have sp := Same.new (o := .tup [.int (i : Nat), .ref (ps.getD i 0)]) hp
      have hst := mvs.stp hi hx
      have ex : ((castI (mv.getD i [])).map V.int)[x]? = some (.int (stp mv i x : Nat)) := castI_item (by rw [r3]; exact hx)
      obtain ⟨b, hb⟩ : ∃ b, as[stp mv i x]? = some b := ⟨_, List.getElem?_eq_getElem (by rw [la]; exact hst)⟩
      obtain ⟨l, el, hl⟩ := ls2.at hb
      rw [presI_at hst] at el
      have el' := Option.some.inj el
      have bL : L ≠ b := fun z => nl (z ▸ List.mem_of_getElem? hb)
      have bfree : H b = none := fr b (List.mem_of_getElem? hb)
      refine ⟨p, _, rfl, .of upd_same, rfl, _, _, rfl, _, _, rfl, rfl, ?_⟩
      refine ⟨_, rfl, _, rfl, _, rfl, _, _, _, _, rfl, rfl, .of (sp _ _ r2), atI_nat ex, L, _, _, V.ref b, rfl, rfl, .of (sp _ _ l2), atI_nat (by rw [List.getElem?_map, hb]; rfl), Or.inl ⟨rfl, _, .of (sp _ _ hl)⟩, _, rfl, b, _, _, rfl, rfl, sp _ _ hl, ?_, ?_⟩
      · rw [List.length_map, castI_len, ← el']
        have := List.length_filter_le (fun r => stp mv r x == stp mv i x) (List.range i)
        rw [List.length_range] at this
        omega
      · refine ⟨_, _, rfl, (s2.trans sp).kbn bfree KB.write, by rw [upd_ne bL]; exact sp _ _ l2, ?_⟩
        rw [presI_next hst, el']
        have := LsAt.set (l := l ++ [i]) (ls2.keep fun c _ o q => sp c o q) nd hb
        rw [castI_app, List.map_append] at this
        exact this
    · rintro σ H2 ⟨v3, v4, rfl, s2, l2, ls2⟩
      rw [List.length_map, lps] at ls2
      exact ⟨_, rfl, k L as H2 hL fr nd nl s2 l2 ls2⟩
end
end My
set_option Elab.async false
set_option linter.all false
set_option maxRecDepth 100000
set_option maxHeartbeats 4000000
namespace My
open PySem L2
structure Mem (H : Hp) (d e : Addr) (ks : List Nat) (es : List Addr) (mss : List (List Nat)) : Prop where
  kn : H d = some (.lst ((castI ks).map V.int))
  ms : H e = some (.lst (es.map V.ref))
  ne : d ≠ e
  nin : ∀ b ∈ es, b ≠ d ∧ b ≠ e
  ls : LsAt H es mss
theorem Mem.same {H H' : Hp} {d e : Addr} {ks : List Nat} {es : List Addr} {mss : List (List Nat)} (m : Mem H d e ks es mss) (s : Same H H') : Mem H' d e ks es mss :=
  ⟨s _ _ m.kn, s _ _ m.ms, m.ne, m.nin, m.ls.keep fun b _ o q => s b o q⟩
def trueK (r : Nat) : Key × V := (Sum.inl (r : Int), .bl true)
theorem valV_trues : ∀ (S : List Nat) (acc : List (Key × V)) (t : Nat), valV (mergeK acc (S.map trueK)) (Sum.inl (t : Int)) = if t ∈ S then some (.bl true) else valV acc (Sum.inl (t : Int))
  | [], _, _ => by simp [mergeK]
  | r :: S, acc, t => by
    show valV (mergeK (putK acc (trueK r).1 (trueK r).2) (S.map trueK)) (Sum.inl (t : Int)) = _
    rw [valV_trues S, valV_put]
    by_cases h : t ∈ S
    · rw [if_pos h, if_pos (List.mem_cons_of_mem _ h)]
    · rw [if_neg h]
      by_cases h2 : t = r
      · subst h2
        rw [if_pos (show (Sum.inl (t : Int) : Key) = (trueK t).1 from rfl), if_pos List.mem_cons_self]; rfl
      · rw [if_neg fun z => h2 (by injection z with z; omega), if_neg fun z => (List.mem_cons.mp z).elim h2 h]
def restOf (S l : List Nat) : List Nat := l.filter fun r => decide (r ∉ S)
def spSplit (K : PySem.W.Frag) : Sp := fun vs H Q _ => ∃ (k : Nat) (s d e : Addr) (S ks : List Nat) (es : List Addr) (mss : List (List Nat)) (l : List Nat), vs = [.int k, .ref s, .ref d, .ref e] ∧ Mem H d e ks es mss ∧ H s = some (.lst ((castI S).map V.int)) ∧ s ≠ d ∧ s ≠ e ∧
  mss[k]? = some l ∧ (∀ r ∈ S, r < ks.length) ∧ (∀ r ∈ l, r < ks.length) ∧ mss.length ≤ 2000 ∧ S.length ≤ 2000 ∧ l.length ≤ 2000 ∧
  ∀ (H' : Hp) (es' : List Addr) (A B : List Nat), KB2 d e H H' → ((A = restOf S l ∧ B = S) ∨ (A = S ∧ B = restOf S l)) → Mem H' d e (putAll mss.length B ks) es' (mss.set k A ++ [B]) → (∀ b ∈ es', b ∈ es ∨ b = s ∨ H b = none) → Q .non H'
section
variable {P : Program} {w : World} {K : PySem.W.Frag} {mg : Str → Option Value} {base : Heap}
theorem sc_split_kind : FnScope ["kind", "some", "kinds", "members", "inside", "rest", "lesser", "room"] ["kind", "some", "kinds", "members"] (defScope s_split_kind) := ⟨rfl, rfl, rfl, by decide +kernel, rfl, by decide +kernel, by decide +kernel⟩
theorem paired_snoc {α β : Type} {F : α → β → Prop} {l : List α} {m : List β} {a : α} {b : β} (h : Paired F l m) (r : F a b) : Paired F (l ++ [a]) (m ++ [b]) := by
  induction h with
  | nil => exact .cons r .nil
  | cons q t ih => exact .cons q ih
theorem ixN_nat {n j : Nat} (h : j < n) : ixN n (j : Int) = some j := by
  have := atI_nat (xs := List.range n) (j := j) (v := j) (List.getElem?_range h)
  unfold atI at this
  rw [List.length_range] at this
  cases e : ixN n (j : Int) with
  | none => rw [e] at this; cases this
  | some i =>
    rw [e] at this
    have h2 : (List.range n)[i]? = some j := this
    obtain ⟨h3, h4⟩ := List.getElem?_eq_some_iff.mp h2
    rw [List.getElem_range] at h4
    rw [h4]
theorem LsAt.setA {H : Hp} : ∀ {as : List Addr} {xss : List (List Nat)} (i : Nat) {b : Addr} {l : List Nat}, LsAt H as xss → H b = some (.lst ((castI l).map V.int)) → LsAt H (as.set i b) (xss.set i l)
  | _, _, _, _, _, .nil, _ => .nil
  | _ :: _, _ :: _, 0, _, _, .cons _ t, e => .cons e t
  | _ :: _, _ :: _, i + 1, _, _, .cons r t, e => .cons r (LsAt.setA i t e)
theorem castI_set (ks : List Nat) (r v : Nat) : (castI ks).set r (v : Int) = castI (ks.set r v) := by unfold castI; rw [List.map_set]
set_option maxHeartbeats 8000000 in
theorem ok_split_kind {a : Adr} (T : Txt K mg a) : FnOk P w K mg base CX0 1 a.f_split_kind a.fd_split_kind ["kind", "some", "kinds", "members"] (spSplit K) := by
  refine T.F_split_kind.ok sc_split_kind (fun vs H Q E h => ?_) (fun cdv Ar outer sh H vs Q E hr h => ?_)
  · obtain ⟨k, s, d, e, S, ks, es, mss, l, rfl, _⟩ := h
    rfl
  · obtain ⟨k, s, d, e, S, ks, es, mss, l, rfl, M, hs, sd, se, hk, rS, rl, b1, b2, b3, q⟩ := h
    refine ⟨_, (pss_cons (ps_set (i := 4) sc_split_kind.nd rfl (Or.inr rfl) (pe_callTy (call_dictP hr.hd) (by rfl) T.z_dict bt_dict (pa_cons (pe_comp (CompScope.mk' (esc := defScope s_split_kind) (N := ["kind", "some", "kinds", "members", "inside", "rest", "lesser", "room"]) (own := ["room"]) (frn := []) (frj := []) rfl rfl (by decide +kernel)) rfl (pi_list (pv 1)) (fun _ _ _ _ => (pg_name (i := 0) (show List.Nodup (["room"] : List Str) by decide +kernel) rfl (Or.inl rfl))) (fun _ _ _ _ => pifs_nil) (fun _ _ _ _ => (pe_tup (pa_cons (pv 0) (pa_cons pe_bl pa_nil))))) pa_nil)))
    (pss_cons (ps_setComp (i := 5) (CompScope.mk' (esc := defScope s_split_kind) (N := ["kind", "some", "kinds", "members", "inside", "rest", "lesser", "room"]) (own := ["room"]) (frn := ["inside"]) (frj := [4]) rfl rfl (by decide +kernel)) rfl (pi_list (pe_ix (ix_listK K) (pv 3) (pv 0) (fun _ _ => rfl))) (fun _ _ _ _ => (pg_name (i := 0) (show List.Nodup (["room", "inside"] : List Str) by decide +kernel) rfl (Or.inl rfl))) (fun _ _ _ _ => (pifs_one (pt_cmp (pc_dnotin (hu_of hr) (pv 0) (pv 1)) (by with_unfolding_all rfl)))) (fun _ _ _ _ => (pv 0)) sc_split_kind.nd rfl rfl)
    (pss_cons (ps_if (pt_cmpR op_le (pe_callB (call_lenK K) (by rfl) T.z_len bt_len (pa_cons (pv 1) pa_nil)) (pe_callB (call_lenK K) (by rfl) T.z_len bt_len (pa_cons (pv 5) pa_nil)) (nomark _))
      (pss_cons (ps_asg (pv 5) (pg_sub (pv 3) (pv 0) set_list))
      (pss_one (ps_set (i := 6) sc_split_kind.nd rfl (Or.inl rfl) (pv 1))))
      (pss_cons (ps_asg (pv 1) (pg_sub (pv 3) (pv 0) set_list))
      (pss_one (ps_set (i := 6) sc_split_kind.nd rfl (Or.inl rfl) (pv 5)))))
    (pss_cons (ps_for PassesOwn.never rfl (pi_list (pv 6)) (pg_name (i := 7) sc_split_kind.nd rfl (Or.inl rfl))
      (pss_one (ps_asg (pe_callB (call_lenK K) (by rfl) T.z_len bt_len (pa_cons (pv 3) pa_nil)) (pg_sub (pv 2) (pv 7) set_list))))
    (pss_one (ps_expr (pe_bm PySem.F.plainAttrs_list PySem.F.slot_list_append PySem.F.type_list_append mt_append (pv 3) (pa_cons (pv 6) pa_nil)))))))), ?_⟩
    have big : (10000 : Nat) ≤ sizeLine := by decide
    have hkl : k < mss.length := (List.getElem?_eq_some_iff.mp hk).1
    have lem : es.length = mss.length := M.ls.len
    refine ⟨_, rfl, s, rfl, ⟨_, .of hs⟩, fun C hC => ?_⟩
    refine comp_list (xs := (castI S).map V.int) (fun j σ H' => ∃ (v : Option V) (ps : List Addr), σ = [v] ∧ Same H H' ∧ H' C = some (.lst (ps.map V.ref)) ∧ ps.length = j ∧ Paired (fun (p : Addr) (x : Key × V) => H' p = some (.tup [kV x.1, x.2])) ps ((S.take j).map trueK))
      ⟨none, [], ?sg, Same.new hC, upd_same, rfl, .nil⟩ (fun j σ H' _ ⟨_, _, _, s', _⟩ => .of (s' _ _ hs)) ?_ ?_
    case sg => rfl
    · rintro j y σ H1 hy ⟨v, ps, rfl, s1, c1, lp, pr⟩
      obtain ⟨r, rfl, er⟩ := natItem hy
      have hj : j < S.length := (List.getElem?_eq_some_iff.mp er).1
      refine ⟨_, rfl, by show 2 ≤ sizeLine; omega, fun p hp => ?_⟩
      have nCp : C ≠ p := ne_of_none c1 hp
      have sp := Same.new (o := .tup [.int (r : Nat), .bl true]) hp
      refine ⟨_, sp _ _ c1, by rw [List.length_map]; omega, _, ps ++ [p], rfl, (s1.trans sp).kbn hC KB.write, by rw [upd_same, List.map_append]; rfl, by rw [List.length_append, lp]; rfl, ?_⟩
      rw [take_snoc er, List.map_append]
      refine paired_snoc (Paired.mapP pr fun b x z => ?_) ?_
      · have : b ≠ C := ne_of z c1 (fun z => nomatch z)
        rw [upd_ne this]; exact sp _ _ z
      · rw [upd_ne nCp.symm, upd_same]; rfl
    rintro σ H1 ⟨v, ps, rfl, s1, c1, lp, pr⟩
    rw [List.length_map, castI_len, List.take_length] at pr
    refine ⟨C, ps, S.map trueK, rfl, c1, pr, by rw [List.length_map]; omega, fun Di hDi => ?_⟩
    have sD := Same.new (o := .dK (mergeK [] (S.map trueK))) hDi
    have hD2 : (upd H1 Di (.dK (mergeK [] (S.map trueK)))) Di = some (.dK (mergeK [] (S.map trueK))) := upd_same
    have s2 := s1.trans sD
    generalize upd H1 Di (.dK (mergeK [] (S.map trueK))) = H2 at hD2 s2 ⊢
    have M2 := M.same s2
    obtain ⟨bl, hbl, ebl⟩ := M2.ls.back hk
    dsimp only [gName]
    refine ⟨_, rfl, _, rfl, e, _, _, .ref bl, rfl, rfl, .of M2.ms, atI_nat (by rw [List.getElem?_map, hbl]; rfl), bl, rfl, ⟨_, .of ebl⟩, fun Rr hR => ?_⟩
    refine comp_list (xs := (castI l).map V.int) (fun j σ H' => ∃ (v : Option V), σ = [v, some (.ref Di)] ∧ Same H2 H' ∧ H' Rr = some (.lst ((castI (restOf S (l.take j))).map V.int)))
      ⟨none, ?sg2, Same.new hR, upd_same⟩ (fun j σ H' _ ⟨_, _, s', _⟩ => .of (s' _ _ ebl)) ?_ ?_
    case sg2 => rfl
    · rintro j y σ H3 hy ⟨v, rfl, s3, r3⟩
      obtain ⟨r, rfl, er⟩ := natItem hy
      have hj : j < l.length := (List.getElem?_eq_some_iff.mp er).1
      have lr : (restOf S (l.take j)).length ≤ j := Nat.le_trans (List.length_filter_le _ _) (by rw [List.length_take]; omega)
      refine ⟨_, rfl, _, rfl, Di, _, rfl, DGet.k (k := Sum.inl (r : Int)) (s3 _ _ hD2), _, rfl, ?_⟩
      have ev : valV (mergeK [] (S.map trueK)) (Sum.inl (r : Int)) = if r ∈ S then some (.bl true) else none := by rw [valV_trues]; rfl
      rw [ev]
      have et : restOf S (l.take (j + 1)) = restOf S (l.take j) ++ (if r ∈ S then [] else [r]) := by
        unfold restOf
        rw [take_snoc er, List.filter_append]
        by_cases hm : r ∈ S
        · simp [hm]
        · simp [hm]
      by_cases hm : r ∈ S
      · rw [if_pos hm]
        refine iteF ⟨_, rfl, s3, ?_⟩
        rw [et, if_pos hm, List.append_nil]; exact r3
      · rw [if_neg hm]
        refine iteT ⟨_, rfl, _, r3, by rw [List.length_map, castI_len]; omega, _, rfl, s3.kbn hR KB.write, ?_⟩
        rw [upd_same, et, if_neg hm, castI_app, List.map_append]; rfl
    rintro σ H3 ⟨v, rfl, s3, r3⟩
    rw [List.length_map, castI_len, List.take_length] at r3
    have M3 := M2.same s3
    have hs3 := s3 _ _ (s2 _ _ hs)
    have Rd : Rr ≠ d := (ne_of_none M2.kn hR).symm
    have Re : Rr ≠ e := (ne_of_none M2.ms hR).symm
    have sH3 := s2.trans s3
    have hR0 : H Rr = none := s2.free hR
    generalize hrest : restOf S l = Rs at r3 q
    have lrest : Rs.length ≤ l.length := by rw [← hrest]; exact List.length_filter_le _ _
    have rrest : ∀ r ∈ Rs, r < ks.length := fun r hr => rl r (by rw [← hrest] at hr; exact (List.mem_filter.mp hr).1)
    dsimp only [gName]
    refine seq_rest (t := tIfS _ _ _) (u := tSeq _ _) (fun σ H' => ∃ (lb la : Addr) (A B : List Nat), σ = [some (.int (k : Nat)), some (.ref s), some (.ref d), some (.ref e), some (.ref Di), some (.ref Rr), some (.ref lb), none] ∧ KB e H3 H' ∧ ((A = Rs ∧ B = S) ∨ (A = S ∧ B = Rs)) ∧ H' e = some (.lst ((es.set k la).map V.ref)) ∧
      H3 la = some (.lst ((castI A).map V.int)) ∧ H3 lb = some (.lst ((castI B).map V.int)) ∧ lb ≠ d ∧ lb ≠ e ∧ la ≠ d ∧ la ≠ e ∧ B.length ≤ 2000 ∧ (∀ r ∈ B, r < ks.length) ∧ (la = s ∨ H la = none) ∧ (lb = s ∨ H lb = none)) ?re (fun rest => ?_)
    case re =>
      rintro σ H4 ⟨lb, la, A, B, rfl, k4, hAB, e4, ela, elb, lbd, lbe, lad, lae, lB, rB, fla, flb⟩
      have d4 : H4 d = some (.lst ((castI ks).map V.int)) := k4 _ _ M3.kn M.ne
      have lb4 := k4 _ _ elb lbe
      have la4 := k4 _ _ ela lae
      have ls4 : LsAt H4 es mss := M3.ls.keep fun b hb o z => k4 b o z (M.nin b hb).2
      refine ⟨_, rfl, lb, rfl, ⟨_, .of lb4⟩, for_list (xs := (castI B).map V.int) (fun i σ H' => ∃ v7 : Option V, σ = [some (.int (k : Nat)), some (.ref s), some (.ref d), some (.ref e), some (.ref Di), some (.ref Rr), some (.ref lb), v7] ∧ KB d H4 H' ∧ H' d = some (.lst ((castI (putAll mss.length (B.take i) ks)).map V.int)))
        ⟨none, rfl, KB.refl _ _, d4⟩ (fun i σ H' _ ⟨_, _, k', _⟩ => .of (k' _ _ lb4 lbd)) ?_ ?_⟩
      · rintro i y σ H5 hy ⟨v7, rfl, k5, d5⟩
        obtain ⟨r, rfl, er⟩ := natItem hy
        have hrk : r < ks.length := rB r (List.mem_of_getElem? er)
        have e5 := k5 _ _ e4 M.ne.symm
        have ll : (putAll mss.length (B.take i) ks).length = ks.length := putAll_len _ _ _
        refine ⟨_, rfl, _, (es.set k la).length, rfl, .inl ⟨_, .of e5, by rw [List.length_map]⟩, ?_⟩
        refine ⟨_, rfl, _, rfl, d, _, _, r, rfl, rfl, d5, ?_, _, rfl, k5.trans KB.write, ?_⟩
        · rw [List.length_map, castI_len, ll]; exact ixN_nat hrk
        · rw [upd_same, take_snoc er, putAll_snoc, List.length_set, lem, ← List.map_set, castI_set]
      · rintro σ H5 ⟨v7, rfl, k5, d5⟩
        rw [List.length_map, castI_len, List.take_length] at d5
        have e5 := k5 _ _ e4 M.ne.symm
        have lb5 := k5 _ _ lb4 lbd
        have la5 := k5 _ _ la4 lad
        have ls5 : LsAt H5 es mss := ls4.keep fun b hb o z => k5 b o z (M.nin b hb).1
        refine ⟨_, rfl, Or.inl ⟨rfl, _, .of e5⟩, _, rfl, e, _, _, rfl, rfl, e5, by rw [List.length_map, List.length_set]; omega, ?_⟩
        refine q _ (es.set k la ++ [lb]) A B (fun b o z n1 n2 => ?_) hAB ⟨?_, ?_, M.ne, fun b hb => ?_, ?_⟩ (fun b hb => ?_)
        · rw [upd_ne n2]; exact k5 _ _ (k4 _ _ (sH3 _ _ z) n2) n1
        · rw [upd_ne M.ne]; exact d5
        · rw [upd_same, List.map_append]; rfl
        · rcases List.mem_append.mp hb with z | z
          · rcases List.mem_or_eq_of_mem_set z with z | z
            · exact M.nin b z
            · rw [z]; exact ⟨lad, lae⟩
          · rw [List.mem_singleton.mp z]; exact ⟨lbd, lbe⟩
        · have ne : ∀ b ∈ es.set k la ++ [lb], b ≠ e := fun b hb => by
            rcases List.mem_append.mp hb with z | z
            · rcases List.mem_or_eq_of_mem_set z with z | z
              · exact (M.nin b z).2
              · rw [z]; exact lae
            · rw [List.mem_singleton.mp z]; exact lbe
          refine LsAt.keep (LsAt.snoc (LsAt.setA k ls5 la5) lb5) fun b hb o z => ?_
          rw [upd_ne (ne b hb)]; exact z
        · rcases List.mem_append.mp hb with z | z
          · rcases List.mem_or_eq_of_mem_set z with z | z
            · exact .inl z
            · rw [z]; exact .inr fla
          · rw [List.mem_singleton.mp z]; exact .inr flb
    refine ⟨_, rfl, _, S.length, rfl, .inl ⟨_, .of hs3, by rw [List.length_map, castI_len]⟩, ?_⟩
    refine ⟨_, rfl, _, Rs.length, rfl, .inl ⟨_, .of r3, by rw [List.length_map, castI_len]⟩, _, _, rfl, rfl, _, rfl, ?_⟩
    refine ite2 (fun z => ?_) (fun z => ?_)
    · refine ⟨_, rfl, _, rfl, _, rfl, e, _, _, k, rfl, rfl, M3.ms, ?_, _, rfl, ?_⟩
      · rw [List.length_map, lem]; exact ixN_nat hkl
      · refine rest _ _ ⟨s, Rr, Rs, S, rfl, KB.write, .inl ⟨rfl, rfl⟩, ?_, r3, hs3, sd, se, Rd, Re, b2, rS, .inr hR0, .inl rfl⟩
        rw [upd_same, List.map_set]
    · refine ⟨_, rfl, _, rfl, _, rfl, e, _, _, k, rfl, rfl, M3.ms, ?_, _, rfl, ?_⟩
      · rw [List.length_map, lem]; exact ixN_nat hkl
      · refine rest _ _ ⟨Rr, s, S, Rs, rfl, KB.write, .inr ⟨rfl, rfl⟩, ?_, hs3, r3, Rd, Re, sd, se, by omega, rrest, .inl rfl, .inr hR0⟩
        rw [upd_same, List.map_set]
end
end My
set_option Elab.async false
set_option linter.all false
set_option maxRecDepth 100000
set_option maxHeartbeats 4000000
namespace My
open PySem L2
def kvB (KS : List Nat) (bs : List Addr) : List (Key × V) := List.zipWith (fun (k : Nat) (b : Addr) => ((Sum.inl (k : Int) : Key), V.ref b)) KS bs
theorem valV_kvB_none : ∀ {KS : List Nat} {bs : List Addr} {k : Nat}, k ∉ KS → valV (kvB KS bs) (Sum.inl (k : Int)) = none
  | [], _, _, _ => rfl
  | _ :: _, [], _, _ => rfl
  | q :: KS, b :: bs, k, h => by
    show valV (((Sum.inl (q : Int) : Key), V.ref b) :: kvB KS bs) _ = none
    rw [valV_neg (fun z => h (by injection z with z; have : k = q := by omega
                                 rw [this]; exact List.mem_cons_self))]
    exact valV_kvB_none fun z => h (List.mem_cons_of_mem _ z)
theorem valV_kvB : ∀ {KS : List Nat} {bs : List Addr} {i k : Nat} {b : Addr}, KS.Nodup → KS[i]? = some k → bs[i]? = some b → valV (kvB KS bs) (Sum.inl (k : Int)) = some (.ref b)
  | [], _, _, _, _, _, h, _ => by simp at h
  | _ :: _, [], _, _, _, _, _, h => by simp at h
  | q :: KS, c :: bs, 0, k, b, _, h1, h2 => by
    simp at h1 h2; subst h1; subst h2
    exact valV_pos rfl
  | q :: KS, c :: bs, i + 1, k, b, nd, h1, h2 => by
    simp only [List.getElem?_cons_succ] at h1 h2
    have hm := List.mem_of_getElem? h1
    show valV (((Sum.inl (q : Int) : Key), V.ref c) :: kvB KS bs) _ = _
    rw [valV_neg (fun z => (List.nodup_cons.mp nd).1 (by injection z with z; have : k = q := by omega
                                                         rw [← this]; exact hm))]
    exact valV_kvB (List.nodup_cons.mp nd).2 h1 h2
theorem kvB_snoc : ∀ {KS : List Nat} {bs : List Addr} {k : Nat} {b : Addr}, KS.length = bs.length → kvB (KS ++ [k]) (bs ++ [b]) = kvB KS bs ++ [((Sum.inl (k : Int) : Key), V.ref b)]
  | [], [], _, _, _ => rfl
  | [], _ :: _, _, _, h => by simp at h
  | _ :: _, [], _, _, h => by simp at h
  | q :: KS, c :: bs, k, b, h => by
    show _ :: kvB (KS ++ [k]) (bs ++ [b]) = _ :: (kvB KS bs ++ _)
    rw [kvB_snoc (by simpa using h)]
theorem kvB_at {KS : List Nat} {bs : List Addr} {i : Nat} {k : Key} {v : V} (h : (kvB KS bs)[i]? = some (k, v)) : ∃ (q : Nat) (b : Addr), KS[i]? = some q ∧ bs[i]? = some b ∧ k = Sum.inl (q : Int) ∧ v = .ref b := by
  unfold kvB at h
  rw [List.getElem?_zipWith] at h
  cases h1 : KS[i]? with
  | none => rw [h1] at h; cases h
  | some q =>
    cases h2 : bs[i]? with
    | none => rw [h1, h2] at h; cases h
    | some b =>
      rw [h1, h2] at h
      have := Option.some.inj h
      cases this
      exact ⟨q, b, rfl, rfl, rfl, rfl⟩
theorem kvB_len {KS : List Nat} {bs : List Addr} (h : KS.length = bs.length) : (kvB KS bs).length = KS.length := by unfold kvB; rw [List.length_zipWith]; omega
def grp (ks S : List Nat) (k : Nat) : List Nat := S.filter fun r => kd ks r == k
theorem grp_snoc_at {ks S : List Nat} {r : Nat} : grp ks (S ++ [r]) (kd ks r) = grp ks S (kd ks r) ++ [r] := by unfold grp; rw [List.filter_append]; simp
theorem grp_snoc_ne {ks S : List Nat} {r k : Nat} (h : k ≠ kd ks r) : grp ks (S ++ [r]) k = grp ks S k := by
  have : (kd ks r == k) = false := beq_false_of_ne (Ne.symm h)
  unfold grp
  rw [List.filter_append, List.filter_cons_of_neg (p := fun r => kd ks r == k) (by rw [this]; exact Bool.false_ne_true), List.filter_nil, List.append_nil]
theorem mem_grp {ks S : List Nat} {k r : Nat} : r ∈ grp ks S k ↔ r ∈ S ∧ kd ks r = k := by unfold grp; rw [List.mem_filter, beq_iff_eq]
theorem grp_le (ks S : List Nat) (k : Nat) : (grp ks S k).length ≤ S.length := List.length_filter_le _ _
structure Groups (H0 H : Hp) (D : Addr) (ks S KS : List Nat) (bs : List Addr) : Prop where
  dict : H D = some (.dK (kvB KS bs))
  len : KS.length = bs.length
  once : KS.Nodup
  nd : bs.Nodup
  fresh : ∀ b ∈ bs, H0 b = none
  out : D ∉ bs
  ls : LsAt H bs (KS.map (grp ks S))
  keys : ∀ k, k ∈ KS ↔ ∃ r ∈ S, kd ks r = k
def spSplits (K : PySem.W.Frag) : Sp := fun vs H Q _ => ∃ (n : Nat) (s d e : Addr) (S ks : List Nat) (es : List Addr) (mss : List (List Nat)), vs = [.ref s, .ref d, .ref e] ∧ Mem H d e ks es mss ∧ H s = some (.lst ((castI S).map V.int)) ∧ s ≠ d ∧ s ≠ e ∧ Part n ks mss ∧ S.Nodup ∧ (∀ r ∈ S, r < n) ∧ n ≤ 1000 ∧
  ∀ (H' : Hp) (es' : List Addr) (ks' : List Nat) (mss' : List (List Nat)) (J : List Nat), KB2 d e H H' → Mem H' d e ks' es' mss' → Refd n mss.length ks S J ks' mss' → (∀ r, r ∈ S → kd ks r ∈ J) → (∀ b ∈ es', b ∈ es ∨ H b = none) → Q .non H'
section
variable {P : Program} {w : World} {K : PySem.W.Frag} {mg : Str → Option Value} {base : Heap}
theorem Part.small {n : Nat} {ks : List Nat} {mss : List (List Nat)} (p : Part n ks mss) {k : Nat} {l : List Nat} (h : mss[k]? = some l) : l.length ≤ n := by
  have := List.Nodup.length_le_of_subset (l₂ := List.range n) (p.nd k l h) fun r hr => List.mem_range.mpr ((p.mem k l h r).mp hr).1
  rw [List.length_range] at this
  exact this
theorem sc_split_kinds : FnScope ["some", "kinds", "members", "by_kind", "room", "kind"] ["some", "kinds", "members"] (defScope s_split_kinds) := ⟨rfl, rfl, rfl, by decide +kernel, rfl, by decide +kernel, by decide +kernel⟩
set_option maxHeartbeats 8000000 in
theorem ok_split_kinds {a : Adr} (T : Txt K mg a) : FnOk P w K mg base CX0 2 a.f_split_kinds a.fd_split_kinds ["some", "kinds", "members"] (spSplits K) := by
  have G_split_kind : FnOk P w K mg base CX0 1 a.f_split_kind a.fd_split_kind ["kind", "some", "kinds", "members"] (spSplit K) := ok_split_kind T
  refine T.F_split_kinds.ok sc_split_kinds (fun vs H Q E h => ?_) (fun cdv Ar outer sh H vs Q E hr h => ?_)
  · obtain ⟨n, s, d, e, S, ks, es, mss, rfl, _⟩ := h
    rfl
  · obtain ⟨n, s, d, e, S, ks, es, mss, rfl, M, hs, sd, se, pt, nS, rS, hn, q⟩ := h
    have hr_split_kind : Room 1 _ := hr
    refine ⟨_, (pss_cons (ps_set (i := 3) sc_split_kinds.nd rfl (Or.inl rfl) pe_dnewK)
    (pss_cons (ps_for PassesOwn.never rfl (pi_list (pv 0)) (pg_name (i := 4) sc_split_kinds.nd rfl (Or.inl rfl))
      (pss_one (ps_expr (pe_bm PySem.F.plainAttrs_list PySem.F.slot_list_append PySem.F.type_list_append mt_append (pe_dsetd (pv 3) (pe_ix (ix_listK K) (pv 1) (pv 4) (fun _ _ => rfl)) (pe_lst pa_nil) ⟨rfl, rfl, rfl, rfl⟩) (pa_cons (pv 4) pa_nil)))))
    (pss_one (ps_for PassesOwn.never rfl (pi_dictF (pv 3)) (pg_name (i := 5) sc_split_kinds.nd rfl (Or.inl rfl))
      (pss_one (ps_if (pt_cmpR op_lt (pe_callB (call_lenK K) (by rfl) T.z_len bt_len (pa_cons (pe_dget (hu_of hr) (pv 3) (pv 5) (fun _ _ => rfl)) pa_nil)) (pe_callB (call_lenK K) (by rfl) T.z_len bt_len (pa_cons (pe_ix (ix_listK K) (pv 2) (pv 5) (fun _ _ => rfl)) pa_nil)) (nomark _))
        (pss_one (ps_expr (pe_call G_split_kind hr_split_kind rfl T.m_split_kind T.k_split_kind T.b_split_kind .nil pass0 (pa_cons (pv 5) (pa_cons (pe_dget (hu_of hr) (pv 3) (pv 5) (fun _ _ => rfl)) (pa_cons (pv 1) (pa_cons (pv 2) pa_nil)))))))
        pss_nil)))))), ?_⟩
    have big : (10000 : Nat) ≤ sizeLine := by decide
    have lS : S.length ≤ n := by
      have := List.Nodup.length_le_of_subset (l₂ := List.range n) nS fun r hr => List.mem_range.mpr (rS r hr)
      rw [List.length_range] at this; exact this
    have lks := pt.len
    have ple := pt.le
    refine fun D hD => ?_
    have sD := Same.new (o := .dK []) hD
    have nd1 : d ≠ D := ne_of_none M.kn hD
    have ne1 : e ≠ D := ne_of_none M.ms hD
    have ns1 : s ≠ D := ne_of_none hs hD
    dsimp only [gName]
    refine ⟨_, rfl, s, rfl, ⟨_, .of (sD _ _ hs)⟩, for_list (xs := (castI S).map V.int) (fun j σ H' => ∃ (v4 : Option V) (KS : List Nat) (bs : List Addr), σ = [some (.ref s), some (.ref d), some (.ref e), some (.ref D), v4, none] ∧ Same H H' ∧ Groups H H' D ks (S.take j) KS bs)
      ⟨none, [], [], rfl, sD, ⟨upd_same, rfl, by simp, by simp, fun b hb => (by cases hb), by simp, .nil, fun k => (by simp)⟩⟩ (fun j σ H' _ ⟨_, _, _, _, s', _⟩ => .of (s' _ _ hs)) ?_ ?_⟩
    · rintro j y σ H1 hy ⟨v4, KS, bs, rfl, s1, g⟩
      obtain ⟨r, rfl, er⟩ := natItem hy
      have hj : j < S.length := (List.getElem?_eq_some_iff.mp er).1
      have hrn := rS r (List.mem_of_getElem? er)
      have kn1 := s1 _ _ M.kn
      have ekr : ((castI ks).map V.int)[r]? = some (.int (kd ks r : Nat)) := castI_item (by rw [lks]; exact hrn)
      have lKS : KS.length ≤ mss.length := by
        have := List.Nodup.length_le_of_subset (l₂ := List.range mss.length) g.once fun k hk => by
          obtain ⟨x, hx, ex⟩ := (g.keys k).mp hk
          rw [← ex]
          exact List.mem_range.mpr (pt.lt x (rS x (List.mem_of_mem_take hx)))
        rw [List.length_range] at this; exact this
      refine ⟨_, rfl, D, rfl, .inl ⟨_, .inl g.dict⟩, _, rfl, _, rfl, d, _, _, _, rfl, rfl, .of kn1, atI_nat ekr, by show 0 ≤ sizeLine; omega, fun b0 hb0 => ?_⟩
      have sb := Same.new (o := .lst []) hb0
      have D2 := sb _ _ g.dict
      have nDb : D ≠ b0 := ne_of_none g.dict hb0
      have bn : b0 ∉ bs := fun z => by obtain ⟨l, e⟩ := g.ls.mem z; rw [hb0] at e; cases e
      have tk : ∀ k, (∃ x ∈ S.take (j + 1), kd ks x = k) ↔ (∃ x ∈ S.take j, kd ks x = k) ∨ k = kd ks r := fun k => by
        rw [take_snoc er]
        constructor
        · rintro ⟨x, hx, ex⟩
          rcases List.mem_append.mp hx with z | z
          · exact .inl ⟨x, z, ex⟩
          · rw [List.mem_singleton.mp z] at ex; exact .inr ex.symm
        · rintro (⟨x, hx, ex⟩ | z)
          · exact ⟨x, List.mem_append_left _ hx, ex⟩
          · exact ⟨r, List.mem_append_right _ (List.mem_singleton.mpr rfl), z.symm⟩
      refine ⟨kvB KS bs, Sum.inl (kd ks r : Int), D2, rfl, by rw [kvB_len g.len]; omega, fun v hv => ?_, fun hv => ?_⟩
      ·
        have hm : kd ks r ∈ KS := by
          by_cases hm : kd ks r ∈ KS
          · exact hm
          · rw [valV_kvB_none hm] at hv; cases hv
        obtain ⟨i, hi⟩ := List.getElem?_of_mem hm
        obtain ⟨b, hb⟩ : ∃ b, bs[i]? = some b := ⟨_, List.getElem?_eq_getElem (by rw [← g.len]; exact (List.getElem?_eq_some_iff.mp hi).1)⟩
        rw [valV_kvB g.once hi hb] at hv
        have hv' := Option.some.inj hv
        subst hv'
        obtain ⟨l, el, hl⟩ := g.ls.at hb
        rw [List.getElem?_map, hi] at el
        have el' : grp ks (S.take j) (kd ks r) = l := Option.some.inj el
        have bm := List.mem_of_getElem? hb
        have nbD : D ≠ b := fun z => g.out (z ▸ bm)
        have gl := grp_le ks (S.take j) (kd ks r)
        rw [List.length_take] at gl
        refine ⟨Or.inl ⟨rfl, _, .of (sb _ _ hl)⟩, _, rfl, b, _, _, rfl, rfl, sb _ _ hl, by rw [List.length_map, castI_len, ← el']; omega, ?_⟩
        refine ⟨_, KS, bs, rfl, (s1.trans sb).kbn (g.fresh b bm) KB.write, ⟨by rw [upd_ne nbD]; exact D2, g.len, g.once, g.nd, g.fresh, g.out, ?_, fun k => ?_⟩⟩
        · have h1 := LsAt.set (l := l ++ [r]) (g.ls.keep fun c _ o z => sb c o z) g.nd hb
          rw [castI_app, List.map_append] at h1
          have h2 : (KS.map (grp ks (S.take j))).set i (l ++ [r]) = KS.map (grp ks (S.take (j + 1))) := by
            refine List.ext_getElem? fun t => ?_
            rw [take_snoc er]
            by_cases ht : t = i
            · subst ht
              rw [List.getElem?_set_self (by rw [List.length_map]; exact (List.getElem?_eq_some_iff.mp hi).1), List.getElem?_map, hi]
              show _ = some (grp ks (S.take j ++ [r]) (kd ks r))
              rw [grp_snoc_at, el']
            · rw [List.getElem?_set_ne (Ne.symm ht), List.getElem?_map, List.getElem?_map]
              cases hq : KS[t]? with
              | none => rfl
              | some k =>
                show some _ = some _
                rw [grp_snoc_ne fun z => ht ?_]
                rw [z] at hq
                obtain ⟨a1, a2⟩ := List.getElem?_eq_some_iff.mp hq
                obtain ⟨b1, b2⟩ := List.getElem?_eq_some_iff.mp hi
                exact (List.getElem_inj g.once).mp (a2.trans b2.symm)
          rw [h2] at h1
          exact h1
        · rw [tk k, g.keys k]
          constructor
          · exact .inl
          · rintro (z | z)
            · exact z
            · rw [z]; exact (g.keys _).mp hm
      ·
        have hm : kd ks r ∉ KS := fun z => by
          obtain ⟨i, hi⟩ := List.getElem?_of_mem z
          obtain ⟨b, hb⟩ : ∃ b, bs[i]? = some b := ⟨_, List.getElem?_eq_getElem (by rw [← g.len]; exact (List.getElem?_eq_some_iff.mp hi).1)⟩
          rw [valV_kvB g.once hi hb] at hv; cases hv
        have eput : putK (kvB KS bs) (Sum.inl (kd ks r : Int)) (V.ref b0) = kvB (KS ++ [kd ks r]) (bs ++ [b0]) := by rw [putK_new _ hv, kvB_snoc g.len]
        rw [eput]
        have b2 : (upd (upd H1 b0 (.lst [])) D (.dK (kvB (KS ++ [kd ks r]) (bs ++ [b0])))) b0 = some (.lst []) := by rw [upd_ne nDb.symm, upd_same]
        have eg0 : grp ks (S.take j) (kd ks r) = [] := by
          unfold grp
          rw [List.filter_eq_nil_iff]
          intro x hx z
          exact hm ((g.keys _).mpr ⟨x, hx, beq_iff_eq.mp z⟩)
        refine ⟨Or.inl ⟨rfl, _, .of b2⟩, _, rfl, b0, _, _, rfl, rfl, b2, by show 0 < sizeLine; omega, ?_⟩
        have sAll : Same H (upd (upd (upd H1 b0 (.lst [])) D (.dK (kvB (KS ++ [kd ks r]) (bs ++ [b0])))) b0 (.lst ([] ++ [.int (r : Nat)]))) := ((s1.trans sb).kbn hD KB.write).kbn (s1.free hb0) KB.write
        refine ⟨_, KS ++ [kd ks r], bs ++ [b0], rfl, sAll, ⟨by rw [upd_ne nDb, upd_same], by rw [List.length_append, List.length_append, g.len]; rfl, ?_, ?_, fun b hb => ?_, ?_, ?_, fun k => ?_⟩⟩
        · rw [List.nodup_append]
          exact ⟨g.once, by simp, fun x hx y hy e => hm (by rw [← List.mem_singleton.mp hy, ← e]; exact hx)⟩
        · rw [List.nodup_append]
          exact ⟨g.nd, by simp, fun x hx y hy e => bn (by rw [← List.mem_singleton.mp hy, ← e]; exact hx)⟩
        · rcases List.mem_append.mp hb with z | z
          · exact g.fresh b z
          · rw [List.mem_singleton.mp z]; exact s1.free hb0
        · intro z
          rcases List.mem_append.mp z with z | z
          · exact g.out z
          · exact nDb (List.mem_singleton.mp z)
        · have em : (KS ++ [kd ks r]).map (grp ks (S.take (j + 1))) = KS.map (grp ks (S.take j)) ++ [[r]] := by
            rw [List.map_append, take_snoc er]
            congr 1
            · refine List.map_congr_left fun k hk => grp_snoc_ne fun z => hm (z ▸ hk)
            · show [grp ks (S.take j ++ [r]) (kd ks r)] = _
              rw [grp_snoc_at, eg0]; rfl
          rw [em]
          refine LsAt.snoc (g.ls.keep fun c hc o z => ?_) upd_same
          have c1 : c ≠ b0 := fun z2 => bn (z2 ▸ hc)
          have c2 : c ≠ D := fun z2 => g.out (z2 ▸ hc)
          rw [upd_ne c1, upd_ne c2, upd_ne c1]; exact z
        · rw [tk k, List.mem_append, g.keys k, List.mem_singleton]
    · rintro σ H1 ⟨v4, KS, bs, rfl, s1, g⟩
      rw [List.length_map, castI_len, List.take_length] at g
      have lKS : KS.length ≤ mss.length := by
        have := List.Nodup.length_le_of_subset (l₂ := List.range mss.length) g.once fun k hk => by
          obtain ⟨x, hx, ex⟩ := (g.keys k).mp hk
          rw [← ex]
          exact List.mem_range.mpr (pt.lt x (rS x hx))
        rw [List.length_range] at this; exact this
      refine ⟨_, rfl, D, kvB KS bs, rfl, g.dict, fun o => ?_⟩
      have bsne : ∀ b ∈ bs, b ≠ d ∧ b ≠ e := fun b hb => ⟨(ne_of_none M.kn (g.fresh b hb)).symm, (ne_of_none M.ms (g.fresh b hb)).symm⟩
      have sF : Same H (upd H1 D (.frz o (.dK (kvB KS bs)))) := s1.kbn hD KB.write
      have lsF : LsAt (upd H1 D (.frz o (.dK (kvB KS bs)))) bs (KS.map (grp ks S)) := g.ls.keep fun c hc o' z => by rw [upd_ne (fun z2 : c = D => g.out (z2 ▸ hc))]; exact z
      have dF : (upd H1 D (.frz o (.dK (kvB KS bs)))) D = some (.frz o (.dK (kvB KS bs))) := upd_same
      generalize upd H1 D (.frz o (.dK (kvB KS bs))) = H2 at sF lsF dF ⊢
      refine for_dict (fun i σ H' => ∃ (v5 : Option V) (es' : List Addr) (ks' : List Nat) (mss' : List (List Nat)), σ = [some (.ref s), some (.ref d), some (.ref e), some (.ref D), v4, v5] ∧ KB2 d e H2 H' ∧ Mem H' d e ks' es' mss' ∧ Refd n mss.length ks S (KS.take i) ks' mss' ∧ ∀ b ∈ es', b ∈ es ∨ H b = none)
        ⟨none, es, ks, mss, rfl, fun _ _ z _ _ => z, M.same sF, by rw [List.take_zero]; exact Refd.start pt, fun b hb => .inl hb⟩ (fun i σ H' _ ⟨_, _, _, _, _, k', _⟩ => k' _ _ dF nd1.symm ne1.symm) ?_ ?_
      · rintro i kk vv σ H3 hk ⟨v5, es', ks', mss', rfl, k3, M3, R3, F3⟩
        obtain ⟨k, b, hKS, hb, rfl, rfl⟩ := kvB_at hk
        have bm := List.mem_of_getElem? hb
        have kL : k < mss.length := by
          obtain ⟨x, hx, ex⟩ := (g.keys k).mp (List.mem_of_getElem? hKS)
          rw [← ex]; exact pt.lt x (rS x hx)
        have kJ : k ∉ KS.take i := fun z => by
          obtain ⟨t, ht⟩ := List.getElem?_of_mem z
          rw [List.getElem?_take] at ht
          split at ht
          · rename_i hti
            obtain ⟨a1, a2⟩ := List.getElem?_eq_some_iff.mp ht
            obtain ⟨b1, b2⟩ := List.getElem?_eq_some_iff.mp hKS
            have := (List.getElem_inj g.once).mp (a2.trans b2.symm)
            omega
          · cases ht
        obtain ⟨l, el⟩ : ∃ l, mss'[k]? = some l := ⟨_, List.getElem?_eq_getElem (by have := R3.grow; omega)⟩
        obtain ⟨lb, hlb, elb⟩ := M3.ls.back el
        obtain ⟨g0, eg0, eb⟩ := lsF.at hb
        rw [List.getElem?_map, hKS] at eg0
        have eg' : grp ks S k = g0 := Option.some.inj eg0
        subst eg'
        have eb3 := k3 _ _ eb (bsne b bm).1 (bsne b bm).2
        have d3 := k3 _ _ dF nd1.symm ne1.symm
        have val := valV_kvB g.once hKS hb
        have gt : DGet H3 D (.int (k : Nat)) (some (.ref b)) := .inl ⟨kvB KS bs, Sum.inl (k : Int), .inr ⟨o, d3⟩, rfl, val.symm⟩
        have l1 := R3.part.small el
        have l2 := R3.part.le
        have lg := grp_le ks S k
        refine ⟨_, rfl, _, rfl, D, .ref b, rfl, gt, _, (grp ks S k).length, rfl, .inl ⟨_, .of eb3, by rw [List.length_map, castI_len]⟩, _, rfl, _, rfl, e, _, _, .ref lb, rfl, rfl, .of M3.ms, atI_nat (by rw [List.getElem?_map, hlb]; rfl), _, l.length, rfl, .inl ⟨_, .of elb, by rw [List.length_map, castI_len]⟩, _, _, rfl, rfl, _, rfl, ?_⟩
        have sub : ∀ r ∈ grp ks S k, r ∈ l := fun r hr => (R3.cls pt.lt kL kJ el r).mpr ⟨rS r (mem_grp.mp hr).1, (mem_grp.mp hr).2⟩
        have ndg : (grp ks S k).Nodup := nS.filter _
        refine ite2 (fun z => ?_) (fun z => ?_)
        · have lt : (grp ks S k).length < l.length := by simpa using z
          refine ⟨_, rfl, _, rfl, _, rfl, D, .ref b, rfl, gt, _, rfl, _, rfl, k, b, d, e, grp ks S k, ks', es', mss', l, rfl, M3, eb3, (bsne b bm).1, (bsne b bm).2, el, fun r hr => ?_, fun r hr => ?_, by omega, by omega, by omega, fun H4 es4 A B k4 hAB M4 F4 => ?_⟩
          · rw [R3.part.len]; exact rS r (mem_grp.mp hr).1
          · rw [R3.part.len]; exact ((R3.part.mem k l el r).mp hr).1
          · have free3 : ∀ c, H3 c = none → H c = none := fun c hc => by
              cases hq : H c with
              | none => rfl
              | some o' =>
                by_cases c1 : c = d
                · rw [c1, M3.kn] at hc; cases hc
                by_cases c2 : c = e
                · rw [c2, M3.ms] at hc; cases hc
                have := k3 _ _ (sF _ _ hq) c1 c2
                rw [hc] at this; cases this
            refine ⟨_, es4, _, _, rfl, k3.trans k4, M4, ?_, fun c hc => ?_⟩
            rotate_left
            · rcases F4 c hc with z | z | z
              · exact F3 c z
              · rw [z]; exact .inr (g.fresh b bm)
              · exact .inr (free3 c z)
            rw [take_snoc hKS]
            exact (R3.cut pt.lt kL kJ el (fun r => by rw [mem_grp]; exact ⟨fun z => ⟨z.1, rS r z.1, z.2⟩, fun z => ⟨z.1, z.2.2⟩⟩) ndg (fun z0 => by
              obtain ⟨x, hx, ex⟩ := (g.keys k).mp (List.mem_of_getElem? hKS)
              have : x ∈ grp ks S k := mem_grp.mpr ⟨hx, ex⟩
              rw [z0] at this; cases this) lt hAB).1
        · have ge : l.length ≤ (grp ks S k).length := by
            have : ¬ (grp ks S k).length < l.length := fun y => z (by simpa using y)
            omega
          refine ⟨_, es', ks', mss', rfl, k3, M3, ?_, F3⟩
          rw [take_snoc hKS]
          refine R3.whole fun r hr hv => ?_
          have hl : r ∈ l := (R3.cls pt.lt kL kJ el r).mpr ⟨hr, hv⟩
          by_cases hm : r ∈ grp ks S k
          · exact (mem_grp.mp hm).1
          · have h1 : (r :: grp ks S k).length ≤ l.length := List.Nodup.length_le_of_subset (List.nodup_cons.mpr ⟨hm, ndg⟩) fun x hx => by
              rcases List.mem_cons.mp hx with e' | e'
              · rw [e']; exact hl
              · exact sub x e'
            rw [List.length_cons] at h1
            omega
      · rintro σ H3 ⟨v5, es', ks', mss', rfl, k3, M3, R3, F3⟩
        rw [kvB_len g.len, List.take_length] at R3
        exact q H3 es' ks' mss' KS (fun b o' z n1 n2 => k3 _ _ (sF _ _ z) n1 n2) M3 R3 (fun r hr => (g.keys _).mpr ⟨r, hr, rfl⟩) F3
end
end My
set_option Elab.async false
set_option linter.all false
set_option maxRecDepth 100000
set_option maxHeartbeats 4000000
namespace My
open PySem L2
def IntoAt (N : Addr → Prop) (H : Hp) (mv : List (List Nat)) (n : Nat) (ts : List Addr) : Prop := ∀ (a : Nat) (t : Addr), ts[a]? = some t → N t ∧ ∃ as : List Addr, H t = some (.lst (as.map V.ref)) ∧ (∀ b ∈ as, N b) ∧ LsAt H as (presI mv n a n)
theorem IntoAt.keep {N N' : Addr → Prop} {H H' : Hp} {mv : List (List Nat)} {n : Nat} {ts : List Addr} (h : IntoAt N H mv n ts) (k : ∀ b o, N b → H b = some o → N' b ∧ H' b = some o) : IntoAt N' H' mv n ts := fun a t e => by
  obtain ⟨h1, as, h2, h3, h4⟩ := h a t e
  refine ⟨(k _ _ h1 h2).1, as, (k _ _ h1 h2).2, fun b hb => ?_, h4.keep fun b hb o z => (k b o (h3 b hb) z).2⟩
  obtain ⟨l, z⟩ := h4.mem hb
  exact (k _ _ (h3 b hb) z).1
def spKinds (K : PySem.W.Frag) : Sp := fun vs H Q _ => ∃ (ya va : Addr) (ps : List Addr) (bs : List Bool) (mv : List (List Nat)) (B : Nat), vs = [.ref ya, .ref va] ∧ H ya = some (.tup (bs.map V.bl)) ∧ H va = some (.tup (ps.map V.ref)) ∧ Tups H ps (mv.map castI) ∧ Moves bs.length B mv ∧ 0 < bs.length ∧ bs.length ≤ 1000 ∧ B ≤ 1000 ∧
  ∀ (d : Addr) (ks : List Nat) (H' : Hp), H d = none → Same H H' → H' d = some (.lst ((castI ks).map V.int)) → ks.length = bs.length → (∀ r s, r < bs.length → s < bs.length → (kd ks r = kd ks s ↔ Eqv B bs mv r s)) → Q (.ref d) H'
theorem mem_pres {mv : List (List Nat)} {n x t r : Nat} : (r ∈ (List.range n).filter fun r => stp mv r x == t) ↔ r < n ∧ stp mv r x = t := by rw [List.mem_filter, List.mem_range, beq_iff_eq]
section
variable {P : Program} {w : World} {K : PySem.W.Frag} {mg : Str → Option Value} {base : Heap}
theorem sc_kinds_of : FnScope ["yes", "moves", "kinds", "members", "into", "waiting", "known", "goal", "before", "some", "room"] ["yes", "moves"] (defScope s_kinds_of) := ⟨rfl, rfl, rfl, by decide +kernel, rfl, by decide +kernel, by decide +kernel⟩
theorem firstK_snoc {bs : List Bool} {j : Nat} {c : Bool} (h : bs[j]? = some c) : firstK (bs.take (j + 1)) = firstK (bs.take j) ++ [if c = true then 1 else 0] := by
  unfold firstK; rw [take_snoc h, List.map_append]; rfl
def roomsTo (c : Bool) (bs : List Bool) (j : Nat) : List Nat := (List.range j).filter fun r => bs.getD r false == c
theorem roomsTo_snoc {c : Bool} {bs : List Bool} {j : Nat} {y : Bool} (h : bs[j]? = some y) : roomsTo c bs (j + 1) = roomsTo c bs j ++ (if y = c then [j] else []) := by
  unfold roomsTo
  rw [List.range_succ, List.filter_append]
  have e : bs.getD j false = y := by rw [List.getD_eq_getElem?_getD, h]; rfl
  congr 1
  by_cases z : y = c
  · rw [if_pos z, List.filter_cons_of_pos (by rw [e]; exact beq_iff_eq.mpr z), List.filter_nil]
  · rw [if_neg z, List.filter_cons_of_neg (by rw [e]; exact fun q => z (beq_iff_eq.mp q)), List.filter_nil]
theorem roomsTo_le (c : Bool) (bs : List Bool) (j : Nat) : (roomsTo c bs j).length ≤ j := by
  have := List.length_filter_le (fun r => bs.getD r false == c) (List.range j)
  rw [List.length_range] at this; exact this
theorem rangeInts {lo hi : Nat} (h : lo ≤ hi) : ((List.range ((hi : Int) - (lo : Int)).toNat).map fun (i : Nat) => V.int ((lo : Int) + i)) = (castI (List.range' lo (hi - lo))).map V.int := by
  have e : ((hi : Int) - (lo : Int)).toNat = hi - lo := by omega
  rw [e]
  unfold castI
  rw [List.map_map, List.range'_eq_map_range, List.map_map]
  refine List.map_congr_left fun i _ => ?_
  show V.int _ = V.int _
  congr 1
theorem append_goals {mv : List (List Nat)} {n x : Nat} {goal : List Nat} (nd : goal.Nodup) : ∀ (l : List Nat), l.Sublist goal → ((l.map fun t => (List.range n).filter fun r => stp mv r x == t).flatten).Nodup ∧ ∀ r, r ∈ (l.map fun t => (List.range n).filter fun r => stp mv r x == t).flatten ↔ r < n ∧ stp mv r x ∈ l
  | [], _ => ⟨by simp, fun r => by simp⟩
  | t :: l, h => by
    have nl : (t :: l).Nodup := nd.sublist h
    obtain ⟨h1, h2⟩ := append_goals nd l ((List.sublist_cons_self t l).trans h)
    rw [List.map_cons, List.flatten_cons]
    refine ⟨?_, fun r => ?_⟩
    · rw [List.nodup_append]
      refine ⟨List.nodup_range.filter _, h1, fun a ha b hb e => ?_⟩
      subst e
      have e1 := (mem_pres.mp ha).2
      have e2 := ((h2 a).mp hb).2
      rw [e1] at e2
      exact (List.nodup_cons.mp nl).1 e2
    · rw [List.mem_append, mem_pres, h2 r, List.mem_cons]
      constructor
      · rintro (⟨a, b⟩ | ⟨a, b⟩)
        · exact ⟨a, .inl b⟩
        · exact ⟨a, .inr b⟩
      · rintro ⟨a, b | b⟩
        · exact .inl ⟨a, b⟩
        · exact .inr ⟨a, b⟩
set_option maxHeartbeats 16000000 in
theorem ok_kinds_of {a : Adr} (T : Txt K mg a) : FnOk P w K mg base CX0 3 a.f_kinds_of a.fd_kinds_of ["yes", "moves"] (spKinds K) := by
  have G_rooms_into : FnOk P w K mg base CX0 1 a.f_rooms_into a.fd_rooms_into ["moves", "letter"] (spInto K) := ok_rooms_into T
  have G_split_kinds : FnOk P w K mg base CX0 2 a.f_split_kinds a.fd_split_kinds ["some", "kinds", "members"] (spSplits K) := ok_split_kinds T
  refine T.F_kinds_of.ok sc_kinds_of (fun vs H Q E h => ?_) (fun cdv Ar outer sh H vs Q E hr h => ?_)
  · obtain ⟨ya, va, ps, bs, mv, B, rfl, _⟩ := h
    rfl
  · obtain ⟨ya, va, ps, bs, mv, B, rfl, e2, e3, tp, mvs, n0, n1, hB, q⟩ := h
    have hr_rooms_into : Room 1 _ := hr.mono (by decide)
    have hr_split_kinds : Room 2 _ := hr
    refine ⟨_, (pss_cons (ps_setComp (i := 2) (CompScope.mk' (esc := defScope s_kinds_of) (N := ["yes", "moves", "kinds", "members", "into", "waiting", "known", "goal", "before", "some", "room"]) (own := ["at"]) (frn := []) (frj := []) rfl rfl (by decide +kernel)) rfl (pi_tup (pv 0)) (fun _ _ _ _ => (pg_name (i := 0) (show List.Nodup (["at"] : List Str) by decide +kernel) rfl (Or.inl rfl))) (fun _ _ _ _ => pifs_nil) (fun _ _ _ _ => (pe_ifExp (pt_truthQ K (pv 0) (fun _ => rfl)) pe_int pe_int)) sc_kinds_of.nd rfl rfl)
    (pss_cons (ps_set (i := 3) sc_kinds_of.nd rfl (Or.inl rfl) (pe_lst (pa_cons (pe_comp (CompScope.mk' (esc := defScope s_kinds_of) (N := ["yes", "moves", "kinds", "members", "into", "waiting", "known", "goal", "before", "some", "room"]) (own := ["room", "at"]) (frn := []) (frj := []) rfl rfl (by decide +kernel)) rfl (pi_enumT rfl T.z_enumerate (pa_cons (pv 0) pa_nil)) (fun _ _ _ _ => (pg_tupK K (n := 2) rfl (pgs_cons (pg_name (i := 0) (show List.Nodup (["room", "at"] : List Str) by decide +kernel) rfl (Or.inl rfl)) (pgs_cons (pg_name (i := 1) (show List.Nodup (["room", "at"] : List Str) by decide +kernel) rfl (Or.inl rfl)) pgs_nil)))) (fun _ _ _ _ => (pifs_one (pt_not (pt_truthQ K (pv 1) (fun _ => rfl))))) (fun _ _ _ _ => (pv 0))) (pa_cons (pe_comp (CompScope.mk' (esc := defScope s_kinds_of) (N := ["yes", "moves", "kinds", "members", "into", "waiting", "known", "goal", "before", "some", "room"]) (own := ["room", "at"]) (frn := []) (frj := []) rfl rfl (by decide +kernel)) rfl (pi_enumT rfl T.z_enumerate (pa_cons (pv 0) pa_nil)) (fun _ _ _ _ => (pg_tupK K (n := 2) rfl (pgs_cons (pg_name (i := 0) (show List.Nodup (["room", "at"] : List Str) by decide +kernel) rfl (Or.inl rfl)) (pgs_cons (pg_name (i := 1) (show List.Nodup (["room", "at"] : List Str) by decide +kernel) rfl (Or.inl rfl)) pgs_nil)))) (fun _ _ _ _ => (pifs_one (pt_truthQ K (pv 1) (fun _ => rfl)))) (fun _ _ _ _ => (pv 0))) pa_nil))))
    (pss_cons (ps_setComp (i := 4) (CompScope.mk' (esc := defScope s_kinds_of) (N := ["yes", "moves", "kinds", "members", "into", "waiting", "known", "goal", "before", "some", "room"]) (own := ["letter"]) (frn := ["moves"]) (frj := [1]) rfl rfl (by decide +kernel)) rfl (pi_range1 rfl T.z_range (pa_cons (pe_callB (call_lenK K) (by rfl) T.z_len bt_len (pa_cons (pe_ix (ix_tupK K) (pv 1) pe_int (fun _ _ => rfl)) pa_nil)) pa_nil)) (fun _ _ _ _ => (pg_name (i := 0) (show List.Nodup (["letter", "moves"] : List Str) by decide +kernel) rfl (Or.inl rfl))) (fun _ _ _ _ => pifs_nil) (fun _ _ _ _ => (pe_call G_rooms_into hr_rooms_into rfl T.m_rooms_into T.k_rooms_into T.b_rooms_into .nil pass0 (pa_cons (pv 1) (pa_cons (pv 0) pa_nil)))) sc_kinds_of.nd rfl rfl)
    (pss_cons (ps_set (i := 5) sc_kinds_of.nd rfl (Or.inl rfl) (pe_lst (pa_cons pe_int (pa_cons pe_int pa_nil))))
    (pss_cons (ps_while PassesOwn.never (pt_truth (pv 5) (fun _ => rfl))
      (pss_cons (ps_set (i := 6) sc_kinds_of.nd rfl (Or.inl rfl) (pe_callB (call_lenK K) (by rfl) T.z_len bt_len (pa_cons (pv 3) pa_nil)))
      (pss_cons (ps_set (i := 7) sc_kinds_of.nd rfl (Or.inl rfl) (pe_ix (ix_listK K) (pv 3) (pe_bm0 PySem.F.plainAttrs_list PySem.F.slot_list_pop PySem.F.type_list_pop mt_pop (pv 5)) (fun _ _ => rfl)))
      (pss_cons (ps_for PassesOwn.never rfl (pi_list (pv 4)) (pg_name (i := 8) sc_kinds_of.nd rfl (Or.inl rfl))
        (pss_cons (ps_set (i := 9) sc_kinds_of.nd rfl (Or.inl rfl) (pe_lst pa_nil))
        (pss_cons (ps_for PassesOwn.never rfl (pi_list (pv 7)) (pg_name (i := 10) sc_kinds_of.nd rfl (Or.inl rfl))
          (pss_one (ps_expr (pe_bm PySem.F.plainAttrs_list PySem.F.slot_list_extend PySem.F.type_list_extend mt_extend (pv 9) (pa_cons (pe_ix (ix_listK K) (pv 8) (pv 10) (fun _ _ => rfl)) pa_nil)))))
        (pss_one (ps_expr (pe_call G_split_kinds hr_split_kinds rfl T.m_split_kinds T.k_split_kinds T.b_split_kinds .nil pass0 (pa_cons (pv 9) (pa_cons (pv 2) (pa_cons (pv 3) pa_nil)))))))))
      (pss_one (ps_expr (pe_bm PySem.F.plainAttrs_list PySem.F.slot_list_extend PySem.F.type_list_extend mt_extend (pv 5) (pa_cons (pe_listrange hr.hd rfl T.z_list rfl T.z_range (pa_cons (pv 6) (pa_cons (pe_callB (call_lenK K) (by rfl) T.z_len bt_len (pa_cons (pv 3) pa_nil)) pa_nil))) pa_nil))))))))
    (pss_one (ps_ret (pv 2)))))))), ?_⟩
    have big : (100000 : Nat) ≤ sizeLine := by decide
    generalize hnn : bs.length = n at mvs n0 n1 q
    refine ⟨_, rfl, ya, rfl, ⟨_, .of e2⟩, fun d hd => ?_⟩
    refine comp_tup (xs := bs.map V.bl) (fun j σ H' => ∃ (v : Option V), σ = [v] ∧ Same H H' ∧ H' d = some (.lst ((castI (firstK (bs.take j))).map V.int)))
      ⟨none, ?sg, Same.new hd, upd_same⟩ (fun j σ H' _ ⟨_, _, s', _⟩ => .of (s' _ _ e2)) ?_ ?_
    case sg => rfl
    · rintro j y σ H1 hy ⟨v, rfl, s1, l1⟩
      obtain ⟨c, rfl, ec⟩ := boolItem hy
      have hj : j < bs.length := (List.getElem?_eq_some_iff.mp ec).1
      have lf : (firstK (bs.take j)).length ≤ j := by unfold firstK; rw [List.length_map, List.length_take]; omega
      refine ⟨_, rfl, c, rfl, ?_⟩
      have fin : ∀ z : Nat, (if c = true then 1 else 0) = z → ∃ ys, H1 d = some (.lst ys) ∧ ys.length < sizeLine ∧ ∃ v : Option V, [some (V.bl c)] = [v] ∧ Same H (upd H1 d (.lst (ys ++ [.int (z : Nat)]))) ∧ (upd H1 d (.lst (ys ++ [.int (z : Nat)]))) d = some (.lst ((castI (firstK (bs.take (j + 1)))).map V.int)) := fun z hz => by
        refine ⟨_, l1, by rw [List.length_map, castI_len]; omega, _, rfl, s1.kbn hd KB.write, ?_⟩
        rw [upd_same, firstK_snoc ec, hz, castI_app, List.map_append]; rfl
      refine ite2 (fun z => ?_) (fun z => ?_)
      · exact fin 1 (if_pos z)
      · exact fin 0 (if_neg z)
    rintro σ H1 ⟨v, rfl, s1, l1⟩
    rw [List.length_map, List.take_length] at l1
    dsimp only [gName]
    have rooms : ∀ (c : Bool) (H1 : Hp) (L : Addr) (R : Hp → Prop) (tt : TT), H1 ya = some (.tup (bs.map V.bl)) → H1 L = none →
        (∀ (σ : St) (H2 : Hp) (y : Bool) (Q : Bool → Hp → Prop), σ[1]? = some (some (.bl y)) → Q (decide (y = c)) H2 → tt σ H2 Q) →
        (∀ H2, Same H1 H2 → H2 L = some (.lst ((castI (roomsOf c bs)).map V.int)) → R H2) →
        cLoop (ItnT K ya) (gTup K 2 (gCons (gName 0) (gCons (gName 1) gNil))) tt (tVar 0) L [none, none] (upd H1 L (.lst [])) R := by
      intro c H1 L R tt ey hL ht hR
      refine comp_enumT (xs := bs.map V.bl) (fun j σ H' => ∃ (v0 v1 : Option V), σ = [v0, v1] ∧ Same H1 H' ∧ H' L = some (.lst ((castI (roomsTo c bs j)).map V.int)))
        ⟨none, none, rfl, Same.new hL, upd_same⟩ (fun j σ H' _ ⟨_, _, _, s', _⟩ => .of (s' _ _ ey)) ?_ ?_
      · rintro j y p σ H2 hy ⟨v0, v1, rfl, s2, l2⟩ hp
        obtain ⟨b, rfl, eb⟩ := boolItem hy
        have hj : j < bs.length := (List.getElem?_eq_some_iff.mp eb).1
        have sp := Same.new (o := .tup [.int (j : Nat), .bl b]) hp
        have nLp : L ≠ p := ne_of_none l2 hp
        have lr := roomsTo_le c bs j
        refine ⟨p, _, rfl, .of upd_same, rfl, _, _, rfl, _, _, rfl, rfl, ?_⟩
        refine ht _ _ b _ rfl ?_
        refine ite2 (fun z => ?_) (fun z => ?_)
        · have zc : b = c := of_decide_eq_true z
          refine ⟨_, rfl, _, sp _ _ l2, by rw [List.length_map, castI_len]; omega, _, _, rfl, (s2.trans sp).kbn hL KB.write, ?_⟩
          rw [upd_same, roomsTo_snoc eb, if_pos zc, castI_app, List.map_append]; rfl
        · have zc : ¬ b = c := fun y => z (decide_eq_true y)
          refine ⟨_, _, rfl, s2.trans sp, ?_⟩
          rw [roomsTo_snoc eb, if_neg zc, List.append_nil]; exact sp _ _ l2
      · rintro σ H2 ⟨v0, v1, rfl, s2, l2⟩
        rw [List.length_map] at l2
        exact hR H2 s2 l2
    refine ⟨_, rfl, ya, rfl, ⟨_, .of (s1 _ _ e2)⟩, fun L0 hL0 => ?_⟩
    refine rooms false H1 L0 _ _ (s1 _ _ e2) hL0 (fun σ H2 y Q hy hQ => ⟨_, hy, y, rfl, ?_⟩) fun H2 s2 l2 => ?_
    · cases y <;> exact hQ
    refine ⟨_, rfl, ya, rfl, ⟨_, .of (s2 _ _ (s1 _ _ e2))⟩, fun L1 hL1 => ?_⟩
    refine rooms true H2 L1 _ _ (s2 _ _ (s1 _ _ e2)) hL1 (fun σ H3 y Q hy hQ => ⟨_, hy, y, rfl, ?_⟩) fun H3 s3 l3 => ?_
    · cases y <;> exact hQ
    refine ⟨by show 2 ≤ sizeLine; omega, fun e he => ?_⟩
    have sE := Same.new (o := .lst [.ref L0, .ref L1]) he
    have sHE := ((s1.trans s2).trans s3).trans sE
    have d3 := s3 _ _ (s2 _ _ l1)
    have de : d ≠ e := ne_of_none d3 he
    have L0d : L0 ≠ d := (ne_of_none l1 hL0).symm
    have L1d : L1 ≠ d := (ne_of_none (s2 _ _ l1) hL1).symm
    have L0e : L0 ≠ e := ne_of_none (s3 _ _ l2) he
    have L1e : L1 ≠ e := ne_of_none l3 he
    have M0 : Mem (upd H3 e (.lst [.ref L0, .ref L1])) d e (firstK bs) [L0, L1] [roomsOf false bs, roomsOf true bs] :=
      ⟨sE _ _ d3, upd_same, de, fun b hb => by
        rcases List.mem_cons.mp hb with z | z
        · rw [z]; exact ⟨L0d, L0e⟩
        · rw [List.mem_singleton.mp z]; exact ⟨L1d, L1e⟩, .cons (sE _ _ (s3 _ _ l2)) (.cons (sE _ _ l3) .nil)⟩
    have he0 : H e = none := (s1.trans (s2.trans s3)).free he
    have L0k := sE _ _ (s3 _ _ l2)
    have L1k := sE _ _ l3
    generalize upd H3 e (.lst [.ref L0, .ref L1]) = H4 at sHE M0 L0k L1k ⊢
    dsimp only [gName]
    obtain ⟨w1, w2, w3⟩ := mvs.row (tp.keep sHE.kt) n0
    refine ⟨_, rfl, va, _, _, .ref (ps.getD 0 0), rfl, rfl, .of (sHE _ _ e3), atI_nat (j := 0) (by rw [List.getElem?_map, w1]; rfl), .ref (ps.getD 0 0), B, rfl, .inr ⟨_, .of w2, by rw [List.length_map, castI_len, w3]⟩, _, rfl, by omega, by omega, fun I hI => ?_⟩
    have dI : d ≠ I := ne_of_none M0.kn hI
    have eI : e ≠ I := ne_of_none M0.ms hI
    refine comp_range (n := (B : Int).toNat) (fun j σ H' => ∃ (v : Option V) (ts : List Addr), σ = [v, some (.ref va)] ∧ Same H4 H' ∧ H' I = some (.lst (ts.map V.ref)) ∧ ts.length = j ∧ IntoAt (fun b => b ≠ d ∧ b ≠ e ∧ b ≠ I) H' mv n ts)
      ⟨none, [], ?sg3, Same.new hI, upd_same, rfl, fun a t z => (by simp at z)⟩ ?_ ?_
    case sg3 => rfl
    · rintro j σ H5 hj ⟨v, ts, rfl, s5, i5, lt5, in5⟩
      have ej : (0 : Int) + (j : Int) = ((j : Nat) : Int) := by omega
      rw [ej]
      have sH5 := sHE.trans s5
      have new5 : ∀ b, H5 b = none → b ≠ d ∧ b ≠ e ∧ b ≠ I := fun b hb => ⟨(ne_of_none (s5 _ _ M0.kn) hb).symm, (ne_of_none (s5 _ _ M0.ms) hb).symm, (ne_of_none i5 hb).symm⟩
      refine ⟨_, rfl, _, rfl, va, ps, mv, n, B, j, rfl, sH5 _ _ e3, tp.keep sH5.kt, mvs, by omega, n1, fun t as H6 ht has nda ta s6 t6 ls6 => ?_⟩
      have i6 := s6 _ _ i5
      refine ⟨_, i6, by rw [List.length_map]; omega, _, ts ++ [t], rfl, (s5.trans s6).kbn hI KB.write, by rw [upd_same, List.map_append]; rfl, by rw [List.length_append, lt5]; rfl, fun a u hu => ?_⟩
      by_cases ha : a < ts.length
      · rw [List.getElem?_append_left ha] at hu
        exact IntoAt.keep in5 (fun b o nb z => ⟨nb, by rw [upd_ne nb.2.2]; exact s6 _ _ z⟩) a u hu
      · rw [List.getElem?_append_right (by omega)] at hu
        have ea : a - ts.length = 0 := by
          cases h3 : a - ts.length with
          | zero => rfl
          | succ q => rw [h3] at hu; simp at hu
        rw [ea] at hu
        have eu : t = u := Option.some.inj hu
        subst eu
        have eaj : a = j := by omega
        subst eaj
        refine ⟨new5 t ht, as, by rw [upd_ne (new5 t ht).2.2]; exact t6, fun b hb => new5 b (has b hb), ls6.keep fun b hb o z => ?_⟩
        rw [upd_ne (new5 b (has b hb)).2.2]; exact z
    rintro σ H5 ⟨v, ts, rfl, s5, i5, lt5, in5⟩
    have lts : ts.length = B := by rw [lt5]; omega
    dsimp only [gName]
    refine ⟨by show 2 ≤ sizeLine; omega, fun Wt hW => ?_⟩
    have sW := Same.new (o := .lst [.int 0, .int 1]) hW
    have s56 := s5.trans sW
    have sH6 := sHE.trans s56
    have M6 := M0.same s56
    have dW : d ≠ Wt := ne_of_none (s5 _ _ M0.kn) hW
    have eW : e ≠ Wt := ne_of_none (s5 _ _ M0.ms) hW
    have hW0 : H Wt = none := (sHE.trans s5).free hW
    have i6 := sW _ _ i5
    have IW : I ≠ Wt := ne_of_none i5 hW
    have in6 : IntoAt (fun b => b ≠ d ∧ b ≠ e ∧ b ≠ Wt) (upd H5 Wt (.lst [.int 0, .int 1])) mv n ts := IntoAt.keep in5 fun b o nb z => ⟨⟨nb.1, nb.2.1, ne_of_none z hW⟩, sW _ _ z⟩
    have w6 : (upd H5 Wt (.lst [.int 0, .int 1])) Wt = some (.lst ((castI [0, 1]).map V.int)) := upd_same
    generalize upd H5 Wt (.lst [.int 0, .int 1]) = H6 at sH6 M6 i6 in6 w6 ⊢
    have Id : I ≠ d := Ne.symm dI
    have Ie : I ≠ e := Ne.symm eI
    dsimp only [gName]
    refine seq_rest (t := tWhile _ _) (u := tRet _) (fun σ H' => ∃ (ks : List Nat) (es : List Addr) (mss : List (List Nat)) (v6 v7 v8 v9 v10 : Option V), σ = [some (.ref ya), some (.ref va), some (.ref d), some (.ref e), some (.ref I), some (.ref Wt), v6, v7, v8, v9, v10] ∧ (∀ b o, H6 b = some o → b ≠ d → b ≠ e → b ≠ Wt → H' b = some o) ∧ Mem H' d e ks es mss ∧ Hop n B bs mv ks mss []) ?re (fun rest => ?_)
    case re =>
      rintro σ H' ⟨ks, es, mss, v6, v7, v8, v9, v10, rfl, k7, M7, hop⟩
      refine ⟨_, rfl, q d ks H' hd (fun b o z => ?_) M7.kn hop.part.len (hop.done mvs)⟩
      exact k7 b o (sH6 _ _ z) (ne_of_none z hd) (ne_of_none z he0) (ne_of_none z hW0)
    refine whileM (fun m σ H' => ∃ (ks : List Nat) (es : List Addr) (mss : List (List Nat)) (W : List Nat) (v6 v7 v8 v9 v10 : Option V), m = 2 * (n + 2 - mss.length) + W.length ∧ σ = [some (.ref ya), some (.ref va), some (.ref d), some (.ref e), some (.ref I), some (.ref Wt), v6, v7, v8, v9, v10] ∧ (∀ b o, H6 b = some o → b ≠ d → b ≠ e → b ≠ Wt → H' b = some o) ∧ Mem H' d e ks es mss ∧ H' Wt = some (.lst ((castI W).map V.int)) ∧ (∀ b ∈ es, b ≠ Wt) ∧ W.length ≤ mss.length ∧ Hop n B bs mv ks mss W)
      ⟨_, firstK bs, [L0, L1], [roomsOf false bs, roomsOf true bs], [0, 1], none, none, none, none, none, rfl, rfl, fun _ _ z _ _ _ => z, M6, w6, ?_, by simp, Hop.start hnn mvs⟩ ?_ (fun σ H Q Q' h ⟨v, e, k, t, q⟩ => ⟨v, e, k, t, h _ _ q⟩)
    · intro b hb
      rcases List.mem_cons.mp hb with z | z
      · rw [z]; exact ne_of_none (s5 _ _ L0k) hW
      · rw [List.mem_singleton.mp z]; exact ne_of_none (s5 _ _ L1k) hW
    · rintro m σ H7 ⟨ks, es, mss, W, v6, v7, v8, v9, v10, rfl, rfl, k7, M7, w7, eW7, lW, hop⟩
      refine ⟨_, rfl, _, .inl ⟨_, .of w7, rfl⟩, ?_⟩
      rcases List.eq_nil_or_concat W with rfl | ⟨W', k0, eW'⟩
      · refine iteF ?_
        exact rest _ _ ⟨ks, es, mss, v6, v7, v8, v9, v10, rfl, k7, M7, hop⟩
      rw [List.concat_eq_append] at eW'
      subst eW'
      have le7 : es.length = mss.length := M7.ls.len
      have ple := hop.part.le
      have hk0 : k0 < mss.length := hop.wl k0 (List.mem_append_right _ (List.mem_singleton.mpr rfl))
      obtain ⟨goal, hg⟩ : ∃ l, mss[k0]? = some l := ⟨_, List.getElem?_eq_getElem hk0⟩
      obtain ⟨gb, hgb, egb⟩ := M7.ls.back hg
      have gbW := eW7 gb (List.mem_of_getElem? hgb)
      have gbn := M7.nin gb (List.mem_of_getElem? hgb)
      have ndg := hop.part.nd k0 goal hg
      have mg' := hop.part.mem k0 goal hg
      have lgoal := hop.part.small hg
      have ne1 : (!((castI (W' ++ [k0])).map V.int).isEmpty) = true := by rw [castI_app, List.map_append]; simp [castI]
      rw [ne1]
      refine iteT ?_
      refine ⟨_, rfl, _, es.length, rfl, .inl ⟨_, .of M7.ms, by rw [List.length_map]⟩, ?_⟩
      dsimp only [gName]
      refine ⟨_, rfl, _, rfl, Or.inl ⟨rfl, _, .of w7⟩, Wt, _, .int (k0 : Nat), rfl, rfl, w7, ?_, ?_⟩
      · rw [castI_app, List.map_append, List.length_append, List.getElem?_append_right (by simp [castI])]
        simp [castI]
      have edl : ((castI (W' ++ [k0])).map V.int).dropLast = (castI W').map V.int := by rw [castI_app, List.map_append]; exact List.dropLast_concat ..
      rw [edl]
      have kW : KB Wt H7 (upd H7 Wt (.lst ((castI W').map V.int))) := KB.write
      have w8 : (upd H7 Wt (.lst ((castI W').map V.int))) Wt = some (.lst ((castI W').map V.int)) := upd_same
      generalize upd H7 Wt (.lst ((castI W').map V.int)) = H8 at kW w8 ⊢
      have M8 : Mem H8 d e ks es mss := ⟨kW _ _ M7.kn dW, kW _ _ M7.ms eW, M7.ne, M7.nin, M7.ls.keep fun b hb o z => kW _ _ z (eW7 b hb)⟩
      have gb8 := kW _ _ egb gbW
      have I8 := kW _ _ (k7 _ _ i6 Id Ie IW) IW
      have in8 : IntoAt (fun b => b ≠ d ∧ b ≠ e ∧ b ≠ Wt) H8 mv n ts := IntoAt.keep in6 fun b o nb z => ⟨nb, kW _ _ (k7 _ _ z nb.1 nb.2.1 nb.2.2) nb.2.2⟩
      refine ⟨e, _, _, .ref gb, rfl, rfl, .of M8.ms, atI_nat (by rw [List.getElem?_map, hgb]; rfl), ?_⟩
      dsimp only [gName]
      refine ⟨_, rfl, I, rfl, ⟨_, .of I8⟩, for_list (xs := ts.map V.ref) (fun j σ H' => ∃ (ks' : List Nat) (es' : List Addr) (mss' : List (List Nat)) (v8 v9 v10 : Option V), σ = [some (.ref ya), some (.ref va), some (.ref d), some (.ref e), some (.ref I), some (.ref Wt), some (.int (es.length : Nat)), some (.ref gb), v8, v9, v10] ∧ KB2 d e H8 H' ∧ Mem H' d e ks' es' mss' ∧ (∀ b ∈ es', b ≠ Wt) ∧ Hin n mss.length mv ks goal j ks' mss')
        ⟨ks, es, mss, v8, v9, v10, rfl, fun _ _ z _ _ => z, M8, eW7, Hin.start hop.part⟩ (fun j σ H' _ ⟨_, _, _, _, _, _, _, k', _⟩ => .of (k' _ _ I8 Id Ie)) ?_ ?_⟩
      · rintro j y σ H9 hy ⟨ks', es', mss', v8, v9, v10, rfl, k9, M9, eW9, x9⟩
        obtain ⟨t, rfl, et⟩ := refItem hy
        have hj : j < B := by rw [← lts]; exact (List.getElem?_eq_some_iff.mp et).1
        obtain ⟨nt, as, t8, nas, ls8⟩ := in8 j t et
        refine ⟨by show 0 ≤ sizeLine; omega, fun Sm hSm => ?_⟩
        have sS := Same.new (o := .lst []) hSm
        have gb9 := k9 _ _ gb8 gbn.1 gbn.2
        have t9 := k9 _ _ t8 nt.1 nt.2.1
        have ls9 : LsAt H9 as (presI mv n j n) := ls8.keep fun b hb o z => k9 _ _ z (nas b hb).1 (nas b hb).2.1
        dsimp only [gName]
        have fl := fun i => append_goals (mv := mv) (n := n) (x := j) ndg (goal.take i) (List.take_sublist i goal)
        have flen : ∀ i, (((goal.take i).map fun t => (List.range n).filter fun r => stp mv r j == t).flatten).length ≤ n := fun i => by
          have := List.Nodup.length_le_of_subset (l₂ := List.range n) (fl i).1 fun r hr => List.mem_range.mpr (((fl i).2 r).mp hr).1
          rw [List.length_range] at this; exact this
        refine ⟨_, rfl, gb, rfl, ⟨_, .of (sS _ _ gb9)⟩, for_list (xs := (castI goal).map V.int) (fun i σ H' => ∃ (v10 : Option V), σ = [some (.ref ya), some (.ref va), some (.ref d), some (.ref e), some (.ref I), some (.ref Wt), some (.int (es.length : Nat)), some (.ref gb), some (.ref t), some (.ref Sm), v10] ∧ Same H9 H' ∧ H' Sm = some (.lst ((castI (((goal.take i).map fun t => (List.range n).filter fun r => stp mv r j == t).flatten)).map V.int)))
          ⟨v10, rfl, sS, upd_same⟩ (fun i σ H' _ ⟨_, _, s', _⟩ => .of (s' _ _ gb9)) ?_ ?_⟩
        · rintro i y σ Ha hy ⟨v10, rfl, sa, sm⟩
          obtain ⟨r, rfl, er⟩ := natItem hy
          have hrn : r < n := ((mg' r).mp (List.mem_of_getElem? er)).1
          obtain ⟨b, hb, eb⟩ := ls9.back (presI_at hrn)
          have l1 := flen i
          have l2 : ((List.range n).filter fun x => stp mv x j == r).length ≤ n := by
            have := List.length_filter_le (fun x => stp mv x j == r) (List.range n)
            rw [List.length_range] at this; exact this
          refine ⟨_, rfl, Or.inl ⟨rfl, _, .of sm⟩, _, rfl, _, rfl, t, _, _, .ref b, rfl, rfl, .of (sa _ _ t9), atI_nat (by rw [List.getElem?_map, hb]; rfl), Sm, b, _, _, rfl, rfl, sm, sa _ _ eb, by rw [List.length_map, List.length_map, castI_len, castI_len]; omega, ?_⟩
          refine ⟨_, rfl, sa.kbn hSm KB.write, ?_⟩
          rw [upd_same, take_snoc er, List.map_append, List.flatten_append, castI_app, List.map_append]
          simp
        · rintro σ Ha ⟨v10, rfl, sa, sm⟩
          rw [List.length_map, castI_len, List.take_length] at sm
          have fl0 := fl goal.length
          rw [List.take_length] at fl0
          generalize (goal.map fun t => (List.range n).filter fun r => stp mv r j == t).flatten = S at sm fl0
          have Ma := M9.same sa
          have Sd : Sm ≠ d := (ne_of_none M9.kn hSm).symm
          have Se : Sm ≠ e := (ne_of_none M9.ms hSm).symm
          have W9 := k9 _ _ w8 dW.symm eW.symm
          refine ⟨_, rfl, _, rfl, _, rfl, n, Sm, d, e, S, ks', es', mss', rfl, Ma, sm, Sd, Se, x9.part, fl0.1, fun r hr => ((fl0.2 r).mp hr).1, n1, fun Hb es2 ks2 mss2 J kb Mb Rb hJ Fb => ?_⟩
          refine ⟨ks2, es2, mss2, _, _, _, rfl, fun b o z c1 c2 => kb _ _ (sa _ _ (k9 _ _ z c1 c2)) c1 c2, Mb, fun b hb z => ?_, x9.next Rb hJ fun r hr => ?_⟩
          · rcases Fb b hb with y | y
            · exact eW9 b y z
            · rw [z, sa _ _ W9] at y; cases y
          · rw [fl0.2 r]
            exact ⟨fun z => z.2, fun z => ⟨hr, z⟩⟩
      · rintro σ H9 ⟨ks', es', mss', v8, v9, v10, rfl, k9, M9, eW9, x9⟩
        rw [List.length_map, lts] at x9
        have hop9 := hop.turn mvs mg' x9
        have p9 := x9.part.le
        have g9 := x9.grow
        have le9 : es'.length = mss'.length := M9.ls.len
        have W9 := k9 _ _ w8 dW.symm eW.symm
        rw [List.length_append] at lW
        have eb : ((es'.length : Int) - (es.length : Int)).toNat = mss'.length - mss.length := by omega
        refine ⟨_, rfl, Or.inl ⟨rfl, _, .of W9⟩, _, rfl, _, rfl, _, es'.length, rfl, .inl ⟨_, .of M9.ms, by rw [List.length_map]⟩, _, _, rfl, ⟨by omega, by omega, by omega, by omega⟩, by omega, fun l hl => ?_⟩
        have Wl : Wt ≠ l := ne_of_none W9 hl
        have sl := Same.new (o := .lst ((List.range ((es'.length : Int) - (es.length : Int)).toNat).map fun (i : Nat) => V.int ((es.length : Int) + i))) hl
        refine ⟨Wt, l, _, _, rfl, rfl, sl _ _ W9, upd_same, by rw [List.length_map, List.length_map, castI_len, List.length_range]; simp at lW; omega, ?_⟩
        rw [rangeInts (by omega), le7, le9]
        refine ⟨_, ?_, ks', es', mss', W' ++ List.range' mss.length (mss'.length - mss.length), _, _, _, _, _, rfl, rfl, fun b o z c1 c2 c3 => ?_, ?_, ?_, eW9, ?_, hop9⟩
        · rw [List.length_append, List.length_append, List.length_range']
          simp
          omega
        · rw [upd_ne c3]
          have zl : b ≠ l := fun y => by
            have := k9 _ _ (kW _ _ (k7 _ _ z c1 c2 c3) c3) c1 c2
            rw [y, hl] at this; cases this
          rw [upd_ne zl]
          exact k9 _ _ (kW _ _ (k7 _ _ z c1 c2 c3) c3) c1 c2
        · have kk : ∀ b o, b ≠ Wt → H9 b = some o → (upd (upd H9 l (.lst ((castI (List.range' mss.length (mss'.length - mss.length))).map V.int))) Wt (.lst ((castI W').map V.int ++ (castI (List.range' mss.length (mss'.length - mss.length))).map V.int))) b = some o := fun b o c3 z => by
            rw [upd_ne c3, upd_ne (ne_of_none z hl)]; exact z
          exact ⟨kk _ _ dW M9.kn, kk _ _ eW M9.ms, M9.ne, M9.nin, M9.ls.keep fun b hb o z => kk _ _ (eW9 b hb) z⟩
        · rw [upd_same, castI_app, List.map_append]
        · rw [List.length_append, List.length_range']
          simp at lW
          omega
end
end My
set_option Elab.async false
set_option linter.all false
set_option maxRecDepth 100000
set_option maxHeartbeats 4000000
namespace My
open PySem L2
structure GRow {α : Type} (x0 : α) (on : α → Nat → α) (m : Nat) (xs : List α) (x : α) (leads : List Nat) (ys : List α) : Prop where
  once : ys.Nodup
  pre : ∃ more, ys = xs ++ more
  reach : ∀ y ∈ ys, ∃ w, Word m w ∧ y = runA on x0 w
  at' : ∀ (c t : Nat), leads[c]? = some t → ys[t]? = some (on x c)
  go : rowGo leads xs.length = some ys.length
theorem get_app {α : Type} {xs more : List α} {i : Nat} {x : α} (h : xs[i]? = some x) : (xs ++ more)[i]? = some x := by
  rw [List.getElem?_append_left (List.getElem?_eq_some_iff.mp h).1]; exact h
section
variable {α : Type} {x0 : α} {on : α → Nat → α} {m : Nat} {xs ys : List α} {mv : List (List Nat)} {x : α} {leads : List Nat}
theorem Grown.begin : Grown x0 on m [x0] [] := ⟨by simp, rfl, fun x hx => ⟨[], .nil m, by rw [List.mem_singleton.mp hx]; rfl⟩, fun i r h => by simp at h, rfl⟩
theorem GRow.start (g : Grown x0 on m xs mv) : GRow x0 on m xs x [] xs := ⟨g.once, ⟨[], by simp⟩, g.reach, fun c t h => by simp at h, rfl⟩
theorem GRow.old (g : GRow x0 on m xs x leads ys) {t : Nat} (h : ys[t]? = some (on x leads.length)) : GRow x0 on m xs x (leads ++ [t]) ys := by
  have ht := (List.getElem?_eq_some_iff.mp h).1
  refine ⟨g.once, g.pre, g.reach, fun c u hu => ?_, ?_⟩
  · by_cases hc : c < leads.length
    · rw [List.getElem?_append_left hc] at hu; exact g.at' c u hu
    · have hb := (List.getElem?_eq_some_iff.mp hu).1
      rw [List.length_append] at hb
      have e : c = leads.length := by simp at hb; omega
      subst e
      rw [List.getElem?_append_right (Nat.le_refl _), Nat.sub_self] at hu
      have := Option.some.inj hu
      subst this
      exact h
  · rw [rowGo_app, g.go]
    show rowGo [t] ys.length = _
    simp only [rowGo]
    rw [if_pos ht]
theorem GRow.new (g : GRow x0 on m xs x leads ys) (hm : leads.length < m) (hx : ∃ w, Word m w ∧ x = runA on x0 w) (h : on x leads.length ∉ ys) : GRow x0 on m xs x (leads ++ [ys.length]) (ys ++ [on x leads.length]) := by
  obtain ⟨more, e⟩ := g.pre
  refine ⟨?_, ⟨more ++ [on x leads.length], by rw [e, List.append_assoc]⟩, fun y hy => ?_, fun c u hu => ?_, ?_⟩
  · rw [List.nodup_append]
    exact ⟨g.once, by simp, fun a ha b hb z => h (by rw [← List.mem_singleton.mp hb, ← z]; exact ha)⟩
  · rcases List.mem_append.mp hy with z | z
    · exact g.reach y z
    · rw [List.mem_singleton.mp z]
      obtain ⟨w, hw, ex⟩ := hx
      exact ⟨w ++ [leads.length], hw.app (.cons hm (.nil m)), by rw [runA_app, ← ex]; rfl⟩
  · by_cases hc : c < leads.length
    · rw [List.getElem?_append_left hc] at hu; exact get_app (g.at' c u hu)
    · have hb := (List.getElem?_eq_some_iff.mp hu).1
      rw [List.length_append] at hb
      have e : c = leads.length := by simp at hb; omega
      subst e
      rw [List.getElem?_append_right (Nat.le_refl _), Nat.sub_self] at hu
      have := Option.some.inj hu
      subst this
      rw [List.getElem?_append_right (Nat.le_refl _), Nat.sub_self]; rfl
  · rw [rowGo_app, g.go, List.length_append]
    show rowGo [ys.length] ys.length = _
    simp only [rowGo]
    rw [if_neg (Nat.lt_irrefl _)]
    simp
theorem Grown.next (g : Grown x0 on m xs mv) (hx : xs[mv.length]? = some x) (r : GRow x0 on m xs x leads ys) (hl : leads.length = m) : Grown x0 on m ys (mv ++ [leads]) := by
  obtain ⟨more, e⟩ := r.pre
  have hlt := (List.getElem?_eq_some_iff.mp hx).1
  refine ⟨r.once, by rw [e]; exact get_app g.first, r.reach, fun i row hr => ?_, ?_⟩
  · by_cases hi : i < mv.length
    · rw [List.getElem?_append_left hi] at hr
      obtain ⟨h1, y, h2, h3⟩ := g.row i row hr
      exact ⟨h1, y, by rw [e]; exact get_app h2, fun c t ht => by rw [e]; exact get_app (h3 c t ht)⟩
    · have hb := (List.getElem?_eq_some_iff.mp hr).1
      rw [List.length_append] at hb
      have ei : i = mv.length := by simp at hb; omega
      subst ei
      rw [List.getElem?_append_right (Nat.le_refl _), Nat.sub_self] at hr
      have := Option.some.inj hr
      subst this
      exact ⟨hl, x, by rw [e]; exact get_app hx, r.at'⟩
  · rw [rowsGo_app, g.go]
    show (if 0 + mv.length < xs.length then rowGo leads xs.length else none) = _
    rw [if_pos (by omega)]; exact r.go
end
section
variable {α : Type} (R : DictRep α) (many : Nat) (on : α → Nat → α) (yes : α → Bool) (Ok : α → Prop) (Ev : Hp → Prop)
def spOn : Sp := fun vs H Q _ => ∃ (x : α) (v : V) (a : Nat), vs = [v, .int a] ∧ R.Rep x v H ∧ Ok x ∧ a < many ∧ Ev H ∧ ∀ v' H', Same H H' → R.Rep (on x a) v' H' → Q v' H'
def spYs : Sp := fun vs H Q _ => ∃ (x : α) (v : V), vs = [v] ∧ R.Rep x v H ∧ Ok x ∧ Ev H ∧ ∀ H', Same H H' → Q (.bl (yes x)) H'
def spGrown (f1 f2 : Addr) : Sp := fun vs H Q _ => ∃ (x0 : α) (v0 : V) (most bd : Nat), vs = [v0, .int many, .ref f1, .ref f2, .int most] ∧ R.Rep x0 v0 H ∧ Ok x0 ∧ Ev H ∧ (∀ l : List α, l.Nodup → (∀ x ∈ l, ∃ w, Word many w ∧ x = runA on x0 w) → l.length ≤ bd) ∧ bd ≤ most ∧ bd ≤ 10000 ∧ many ≤ 1000 ∧
  ∀ (xs : List α) (mv : List (List Nat)) (p Rr ya va : Addr) (ps : List Addr) (H' : Hp), Same H H' → mv.length = xs.length → Grown x0 on many xs mv → H' p = some (.tup [.ref Rr, .ref ya, .ref va]) → H' ya = some (.tup ((xs.map yes).map V.bl)) → H' va = some (.tup (ps.map V.ref)) → Tups H' ps (mv.map castI) → Q (.ref p) H'
end
theorem ktu_upd {H : Hp} {a : Addr} {o o' : HO} (h : H a = some o) (hn : ∀ l, o ≠ .tup l) : KTu H (upd H a o') := fun b xs e => by
  rw [upd_ne (ne_of e h fun z => hn xs z.symm)]; exact e
theorem ktu_kb {H H' : Hp} {a : Addr} {o : HO} (h : H a = some o) (hn : ∀ l, o ≠ .tup l) (k : KB a H H') : KTu H H' := fun b xs e => k _ _ e (ne_of e h fun z => hn xs z.symm)
def Reps {α : Type} (R : DictRep α) (H : Hp) (vs : List V) (xs : List α) : Prop := Paired (fun v x => R.Rep x v H) vs xs
theorem Reps.keep {α : Type} {R : DictRep α} {H H' : Hp} {vs : List V} {xs : List α} (h : Reps R H vs xs) (k : KTu H H') : Reps R H' vs xs := Paired.mapP h fun _ _ z => R.same z k
theorem Reps.at {α : Type} {R : DictRep α} {H : Hp} : ∀ {vs : List V} {xs : List α} {i : Nat} {x : α}, Reps R H vs xs → xs[i]? = some x → ∃ v, vs[i]? = some v ∧ R.Rep x v H
  | _, _, _, _, .nil, e => by simp at e
  | _, _, 0, _, .cons r _, e => by simp at e; subst e; exact ⟨_, rfl, r⟩
  | _, _, i + 1, _, .cons _ t, e => by
    simp only [List.getElem?_cons_succ] at e ⊢
    exact Reps.at t e
section
variable {P : Program} {w : World} {K : PySem.W.Frag} {mg : Str → Option Value} {base : Heap}
theorem sc_grown_from : FnScope ["first", "many", "onward", "is_yes", "most", "rooms", "numbers", "moves", "room", "leads", "letter", "to", "yes"] ["first", "many", "onward", "is_yes", "most"] (defScope s_grown_from) := ⟨rfl, rfl, rfl, by decide +kernel, rfl, by decide +kernel, by decide +kernel⟩
set_option maxHeartbeats 16000000 in
theorem ok_grown_from {a : Adr} (T : Txt K mg a) {α : Type} (R : DictRep α) {many : Nat} {on : α → Nat → α} {yes : α → Bool} {Ok : α → Prop} {Ev : Hp → Prop} {f1 f2 : Addr} {k : Nat}
    (F1 : FnAt P w K mg base k f1 2 (spOn R many on Ok Ev)) (F2 : FnAt P w K mg base k f2 1 (spYs R yes Ok Ev)) (okS : ∀ x a, Ok x → a < many → Ok (on x a)) (evS : ∀ H H', Ev H → Same H H' → Ev H') :
    FnOk P w K mg base CX0 (k + 1) a.f_grown_from a.fd_grown_from ["first", "many", "onward", "is_yes", "most"] (spGrown R many on yes Ok Ev f1 f2) := by
  obtain ⟨o1, fd1, ps1, ho1, hf1, hl1, hb1, G1⟩ := F1
  obtain ⟨o2, fd2, ps2, ho2, hf2, hl2, hb2, G2⟩ := F2
  refine T.F_grown_from.ok sc_grown_from (fun vs H Q E h => ?_) (fun Ar outer sh H vs Q E hr h => ?_)
  · obtain ⟨x0, v0, most, bd, rfl, _⟩ := h
    rfl
  · obtain ⟨x0, v0, most, bd, rfl, r0, k0, ev0, hbd, hbm, hbd1, hmany, q⟩ := h
    refine ⟨_, (pss_cons (ps_set (i := 5) sc_grown_from.nd rfl (Or.inl rfl) (pe_lst (pa_cons (pv 0) pa_nil)))
    (pss_cons (ps_set (i := 6) sc_grown_from.nd rfl (Or.inl rfl) (R.disp (hu_of hr) (pv 0) pe_int))
    (pss_cons (ps_set (i := 7) sc_grown_from.nd rfl (Or.inl rfl) (pe_lst pa_nil))
    (pss_cons (ps_while PassesOwn.never (pt_chain op_lt op_le (pe_callB (call_lenK K) (by rfl) T.z_len bt_len (pa_cons (pv 7) pa_nil)) (pe_callB (call_lenK K) (by rfl) T.z_len bt_len (pa_cons (pv 5) pa_nil)) (pv 4))
      (pss_cons (ps_set (i := 8) sc_grown_from.nd rfl (Or.inl rfl) (pe_ix (ix_listK K) (pv 5) (pe_callB (call_lenK K) (by rfl) T.z_len bt_len (pa_cons (pv 7) pa_nil)) (fun _ _ => rfl)))
      (pss_cons (ps_set (i := 9) sc_grown_from.nd rfl (Or.inl rfl) (pe_lst pa_nil))
      (pss_cons (ps_for PassesOwn.never rfl (pi_range1 rfl T.z_range (pa_cons (pv 1) pa_nil)) (pg_name (i := 10) sc_grown_from.nd rfl (Or.inl rfl))
        (pss_cons (ps_set (i := 11) sc_grown_from.nd rfl (Or.inl rfl) (pe_callV (i := 2) G1 ho1 hf1 hr hb1 rfl (Or.inl rfl) (pa_cons (pv 8) (pa_cons (pv 10) pa_nil))))
        (pss_cons (ps_if (pt_cmp (pc_dnotin (hu_of hr) (pv 11) (pv 6)) (by with_unfolding_all rfl))
          (pss_cons (ps_dput (hu_of hr) (pv 6) (pv 11) (pe_callB (call_lenK K) (by rfl) T.z_len bt_len (pa_cons (pv 5) pa_nil)) rfl)
          (pss_one (ps_expr (pe_bm PySem.F.plainAttrs_list PySem.F.slot_list_append PySem.F.type_list_append mt_append (pv 5) (pa_cons (pv 11) pa_nil)))))
          pss_nil)
        (pss_one (ps_expr (pe_bm PySem.F.plainAttrs_list PySem.F.slot_list_append PySem.F.type_list_append mt_append (pv 9) (pa_cons (pe_dget (hu_of hr) (pv 6) (pv 11) (fun _ _ => rfl)) pa_nil)))))))
      (pss_one (ps_expr (pe_bm PySem.F.plainAttrs_list PySem.F.slot_list_append PySem.F.type_list_append mt_append (pv 7) (pa_cons (pe_callTy (call_tupleK K) (by rfl) T.z_tuple bt_tuple (pa_cons (pv 9) pa_nil)) pa_nil))))))))
    (pss_cons (ps_if (pt_cmpR op_gt (pe_callB (call_lenK K) (by rfl) T.z_len bt_len (pa_cons (pv 5) pa_nil)) (pv 4) (nomark _))
      (pss_one (ps_ret pe_non))
      pss_nil)
    (pss_cons (ps_set (i := 12) sc_grown_from.nd rfl (Or.inl rfl) (pe_callTy (call_tupleK K) (by rfl) T.z_tuple bt_tuple (pa_cons (pe_comp (CompScope.mk' (esc := defScope s_grown_from) (N := ["first", "many", "onward", "is_yes", "most", "rooms", "numbers", "moves", "room", "leads", "letter", "to", "yes"]) (own := ["room"]) (frn := ["is_yes"]) (frj := [3]) rfl rfl (by decide +kernel)) rfl (pi_list (pv 5)) (fun _ _ _ _ => (pg_name (i := 0) (show List.Nodup (["room", "is_yes"] : List Str) by decide +kernel) rfl (Or.inl rfl))) (fun _ _ _ _ => pifs_nil) (fun _ _ _ _ => (pe_callTy call_bool1 (by rfl) T.z_bool bt_bool (pa_cons (pe_callV (i := 1) G2 ho2 hf2 hr hb2 (by rfl) (by first | exact Or.inl rfl | exact Or.inr (Or.inl rfl) | exact Or.inr (Or.inr rfl)) (pa_cons (pv 0) pa_nil)) pa_nil)))) pa_nil)))
    (pss_one (ps_ret (pe_tup (pa_cons (pv 5) (pa_cons (pv 12) (pa_cons (pe_callTy (call_tupleK K) (by rfl) T.z_tuple bt_tuple (pa_cons (pv 7) pa_nil)) pa_nil)))))))))))), ?_⟩
    have big : (100000 : Nat) ≤ sizeLine := by decide
    have okRun : ∀ (w : List Nat) (x : α), Ok x → Word many w → Ok (runA on x w) := by
      intro w
      induction w with
      | nil => intro x hx _; exact hx
      | cons c w ih => intro x hx hw; exact ih _ (okS x c hx (hw c List.mem_cons_self)) fun z hz => hw z (List.mem_cons_of_mem _ hz)
    refine ⟨_, rfl, by show 1 ≤ sizeLine; omega, fun Rr hR => ?_⟩
    have sR := Same.new (o := .lst [v0]) hR
    dsimp only [gName]
    refine ⟨x0, v0, rfl, R.same r0 sR.kt, fun D H2 hD s2 num => ?_⟩
    have eR2 : H2 Rr = some (.lst [v0]) := s2 _ _ upd_same
    have hD0 : H D = none := sR.free hD
    have DR : Rr ≠ D := ne_of_none (show (upd H Rr (.lst [v0])) Rr = some (.lst [v0]) from upd_same) hD
    dsimp only [gName]
    refine ⟨by show 0 ≤ sizeLine; omega, fun M hM => ?_⟩
    have sM := Same.new (o := .lst []) hM
    have hM0 : H M = none := sR.free (s2.free hM)
    have MR : M ≠ Rr := (ne_of_none eR2 hM).symm
    obtain ⟨oD, eoD, _, _⟩ := R.isD num
    have MD : M ≠ D := (ne_of_none eoD hM).symm
    have sH3 := (sR.trans s2).trans sM
    dsimp only [gName]
    refine seq_rest (t := tWhile _ _) (u := tSeq _ _) (fun σ H' => ∃ (xs : List α) (mv : List (List Nat)) (vs : List V) (ps : List Addr) (v8 v9 v10 v11 : Option V), σ = [some v0, some (.int (many : Nat)), some (.ref f1), some (.ref f2), some (.int (most : Nat)), some (.ref Rr), some (.ref D), some (.ref M), v8, v9, v10, v11, none] ∧ Same H H' ∧
      H' Rr = some (.lst vs) ∧ Reps R H' vs xs ∧ H' M = some (.lst (ps.map V.ref)) ∧ Tups H' ps (mv.map castI) ∧ Grown x0 on many xs mv ∧ mv.length = xs.length) ?re (fun rest => ?_)
    case re =>
      rintro σ H' ⟨xs, mv, vs, ps, v8, v9, v10, v11, rfl, s', eR, rp, eM, tp, g, hl⟩
      have lx := hbd xs g.once g.reach
      have lvs : vs.length = xs.length := Paired.length rp
      have lps : ps.length = mv.length := by rw [Paired.length tp, List.length_map]
      refine ⟨_, rfl, _, vs.length, rfl, .inl ⟨_, .of eR, rfl⟩, _, rfl, _, _, rfl, rfl, _, rfl, ?_⟩
      rw [show decide ((most : Int) < ((vs.length : Nat) : Int)) = false from decide_eq_false (by omega)]
      refine iteF ?_
      refine ⟨_, rfl, Rr, rfl, ⟨_, .of eR⟩, fun C hC => ?_⟩
      refine comp_list (xs := vs) (fun j σ H2 => ∃ v : Option V, σ = [v, some (.ref f2)] ∧ Same H' H2 ∧ H2 C = some (.lst (((xs.take j).map yes).map V.bl)))
        ⟨none, ?sg, Same.new hC, upd_same⟩ (fun j σ H2 _ ⟨_, _, s2, _⟩ => .of (s2 _ _ eR)) ?_ ?_
      case sg => rfl
      · rintro j y σ H2 hy ⟨v, rfl, s2, c2⟩
        have hj : j < xs.length := by rw [← lvs]; exact (List.getElem?_eq_some_iff.mp hy).1
        have ex : xs[j]? = some xs[j] := List.getElem?_eq_getElem hj
        obtain ⟨v', hv', rv⟩ := rp.at ex
        rw [hy] at hv'
        have hv2 := Option.some.inj hv'
        subst hv2
        obtain ⟨w, hw, ew⟩ := g.reach xs[j] (List.getElem_mem ..)
        have okx : Ok xs[j] := by rw [ew]; exact okRun w x0 k0 hw
        refine ⟨rfl, _, rfl, xs[j], y, rfl, R.same rv s2.kt, okx, evS _ _ ev0 (s'.trans s2), fun H3 s3 => ?_⟩
        refine .inr ⟨_, rfl, _, s3 _ _ c2, by rw [List.length_map, List.length_map, List.length_take]; omega, _, rfl, (s2.trans s3).kbn hC KB.write, ?_⟩
        rw [upd_same, take_snoc ex, List.map_append, List.map_append]; rfl
      rintro σ H2 ⟨v, rfl, s2, c2⟩
      rw [lvs, List.take_length] at c2
      refine ⟨C, _, rfl, .inl ⟨.of c2, fun Ya hYa => ?_⟩⟩
      have sY := Same.new (o := .tup ((xs.map yes).map V.bl)) hYa
      dsimp only [gName]
      refine ⟨_, rfl, _, rfl, _, rfl, M, _, rfl, .inl ⟨.of (sY _ _ (s2 _ _ eM)), fun Va hVa => ⟨by show 3 ≤ sizeLine; omega, fun p hp => ?_⟩⟩⟩
      have sV := Same.new (o := .tup (ps.map V.ref)) hVa
      have sP := Same.new (o := .tup [.ref Rr, .ref Ya, .ref Va]) hp
      have sAll := ((s2.trans sY).trans sV).trans sP
      exact q xs mv p Rr Ya Va ps _ (s'.trans sAll) hl g upd_same (sP _ _ (sV _ _ upd_same)) (sP _ _ upd_same) (tp.keep sAll.kt)
    refine whileM (fun m σ H' => ∃ (xs : List α) (mv : List (List Nat)) (vs : List V) (ps : List Addr) (v8 v9 v10 v11 : Option V), m = bd + 1 - mv.length ∧ σ = [some v0, some (.int (many : Nat)), some (.ref f1), some (.ref f2), some (.int (most : Nat)), some (.ref Rr), some (.ref D), some (.ref M), v8, v9, v10, v11, none] ∧ Same H H' ∧
        H' Rr = some (.lst vs) ∧ Reps R H' vs xs ∧ R.Num H' D xs ∧ H' M = some (.lst (ps.map V.ref)) ∧ Tups H' ps (mv.map castI) ∧ Grown x0 on many xs mv ∧ mv.length ≤ xs.length)
      ⟨_, [x0], [], [v0], [], none, none, none, none, rfl, rfl, sH3, sM _ _ eR2, .cons (R.same r0 sH3.kt) .nil, R.keep num (upd_ne MD.symm), upd_same, .nil, Grown.begin, by simp⟩ ?_ ?_
    · rintro m σ H4 ⟨xs, mv, vs, ps, v8, v9, v10, v11, rfl, rfl, s4, eR, rp, nm, eM, tp, g, hl⟩
      have lx := hbd xs g.once g.reach
      have lvs : vs.length = xs.length := Paired.length rp
      have lps : ps.length = mv.length := by rw [Paired.length tp, List.length_map]
      refine ⟨_, rfl, _, ps.length, rfl, .inl ⟨_, .of eM, by rw [List.length_map]⟩, _, rfl, _, vs.length, rfl, .inl ⟨_, .of eR, rfl⟩, _, _, rfl, rfl, _, rfl, ?_⟩
      by_cases hlt : mv.length < xs.length
      · rw [show decide (((ps.length : Nat) : Int) < ((vs.length : Nat) : Int)) = true from decide_eq_true (by omega)]
        refine iteT ⟨_, rfl, _, _, rfl, rfl, _, rfl, ?_⟩
        rw [show decide (((vs.length : Nat) : Int) ≤ ((most : Nat) : Int)) = true from decide_eq_true (by omega)]
        refine iteT ?_
        obtain ⟨x, ex⟩ : ∃ x, xs[mv.length]? = some x := ⟨_, List.getElem?_eq_getElem hlt⟩
        obtain ⟨vx, hvx, rx⟩ := rp.at ex
        have rchx := g.reach x (List.mem_of_getElem? ex)
        have okx : Ok x := by obtain ⟨w, hw, ew⟩ := rchx; rw [ew]; exact okRun w x0 k0 hw
        refine ⟨_, rfl, _, rfl, _, ps.length, rfl, .inl ⟨_, .of eM, by rw [List.length_map]⟩, Rr, _, _, vx, rfl, rfl, .of eR, atI_nat (by rw [lps]; exact hvx), ?_⟩
        dsimp only [gName]
        refine ⟨by show 0 ≤ sizeLine; omega, fun L hL => ?_⟩
        have sL := Same.new (o := .lst []) hL
        have hL0 : H L = none := s4.free hL
        have LR : L ≠ Rr := (ne_of_none eR hL).symm
        have LM : L ≠ M := (ne_of_none eM hL).symm
        obtain ⟨oD4, eoD4, _, _⟩ := R.isD nm
        have LD : L ≠ D := (ne_of_none eoD4 hL).symm
        dsimp only [gName]
        refine ⟨_, rfl, _, rfl, by omega, by omega, for_range (n := (many : Int).toNat) (fun j σ H' => ∃ (ys : List α) (us : List V) (leads : List Nat) (v10 v11 : Option V), σ = [some v0, some (.int (many : Nat)), some (.ref f1), some (.ref f2), some (.int (most : Nat)), some (.ref Rr), some (.ref D), some (.ref M), some vx, some (.ref L), v10, v11, none] ∧ Same H H' ∧ KTu H4 H' ∧
            H' Rr = some (.lst us) ∧ Reps R H' us ys ∧ R.Num H' D ys ∧ H' M = some (.lst (ps.map V.ref)) ∧ H' L = some (.lst ((castI leads).map V.int)) ∧ leads.length = j ∧ GRow x0 on many xs x leads ys)
          ⟨xs, vs, [], v10, v11, rfl, s4.trans sL, sL.kt, sL _ _ eR, rp.keep sL.kt, R.keep nm (upd_ne LD.symm), sL _ _ eM, upd_same, rfl, GRow.start g⟩ ?_ ?_⟩
        · rintro j σ H5 hj ⟨ys, us, leads, v10, v11, rfl, s5, kt5, eR5, rp5, nm5, eM5, eL5, ll, gr⟩
          have ej : (0 : Int) + (j : Int) = ((j : Nat) : Int) := by omega
          rw [ej]
          have hjm : j < many := by omega
          have ly := hbd ys gr.once gr.reach
          have lus : us.length = ys.length := Paired.length rp5
          refine ⟨rfl, _, rfl, _, rfl, x, vx, j, rfl, R.same rx kt5, okx, hjm, evS _ _ ev0 s5, fun to H6 s6 rto => ?_⟩
          have eR6 := s6 _ _ eR5
          have eM6 := s6 _ _ eM5
          have eL6 := s6 _ _ eL5
          have rp6 := rp5.keep s6.kt
          obtain ⟨oD5, eoD5, nD1, nD2⟩ := R.isD nm5
          have nm6 := R.keep nm5 ((s6 _ _ eoD5).trans eoD5.symm)
          have eoD6 := s6 _ _ eoD5
          have kt6 : KTu H4 H6 := fun b l z => s6 _ _ (kt5 _ _ z)
          have sH6 := s5.trans s6
          dsimp only [gName]
          refine seq_rest (t := tIfS _ _ _) (u := tDrop _) (fun σ H' => ∃ (zs : List α) (ws : List V) (t : Nat), σ = [some v0, some (.int (many : Nat)), some (.ref f1), some (.ref f2), some (.int (most : Nat)), some (.ref Rr), some (.ref D), some (.ref M), some vx, some (.ref L), some (.int (j : Nat)), some to, none] ∧ Same H H' ∧ KTu H6 H' ∧
            H' Rr = some (.lst ws) ∧ Reps R H' ws zs ∧ R.Num H' D zs ∧ H' M = some (.lst (ps.map V.ref)) ∧ H' L = some (.lst ((castI leads).map V.int)) ∧ zs[t]? = some (on x j) ∧ GRow x0 on many xs x (leads ++ [t]) zs) ?re2 (fun rest2 => ?_)
          case re2 =>
            rintro σ H7 ⟨zs, ws, t, rfl, s7, kt7, eR7, rp7, nm7, eM7, eL7, hz, gr7⟩
            refine ⟨_, rfl, Or.inl ⟨rfl, _, .of eL7⟩, _, rfl, _, rfl, D, _, rfl, R.there nm7 (R.same rto kt7) gr7.once hz, L, _, _, rfl, rfl, eL7, by rw [List.length_map, castI_len]; omega, ?_⟩
            have kL : KTu H7 (upd H7 L (.lst ((castI leads).map V.int ++ [.int (t : Nat)]))) := ktu_upd eL7 (fun l z => nomatch z)
            refine ⟨zs, ws, leads ++ [t], _, _, rfl, s7.kbn hL0 KB.write, fun b l z => kL _ _ (kt7 _ _ (kt6 _ _ z)), by rw [upd_ne LR.symm]; exact eR7, rp7.keep kL, R.keep nm7 (upd_ne LD.symm), by rw [upd_ne LM.symm]; exact eM7, ?_, by rw [List.length_append, ll]; rfl, gr7⟩
            rw [upd_same, castI_app, List.map_append]; rfl
          by_cases hm : on x j ∈ ys
          · obtain ⟨i, hi⟩ := List.getElem?_of_mem hm
            refine ⟨_, rfl, _, rfl, D, _, rfl, R.there nm6 rto gr.once hi, _, rfl, ?_⟩
            refine iteF ?_
            exact rest2 _ _ ⟨ys, us, i, rfl, sH6, fun _ _ z => z, eR6, rp6, nm6, eM6, eL6, hi, gr.old (by rw [ll]; exact hi)⟩
          · refine ⟨_, rfl, _, rfl, D, _, rfl, R.miss nm6 rto hm, _, rfl, ?_⟩
            refine iteT ?_
            obtain ⟨H7, hput, kb7, nm7⟩ := R.put nm6 rto hm (by omega)
            have gr' := gr.new (by omega) rchx (by rw [ll]; exact hm)
            rw [ll] at gr'
            have eR7 := kb7 _ _ eR6 DR
            refine ⟨_, rfl, _, us.length, rfl, .inl ⟨_, .of eR6, rfl⟩, _, rfl, _, rfl, D, H7, rfl, by rw [lus]; exact hput, ?_⟩
            refine ⟨_, rfl, Or.inl ⟨rfl, _, .of eR7⟩, _, rfl, Rr, _, _, rfl, rfl, eR7, by omega, ?_⟩
            have kt7 : KTu H6 H7 := ktu_kb eoD6 nD2 kb7
            have kR : KTu H7 (upd H7 Rr (.lst (us ++ [to]))) := ktu_upd eR7 (fun l z => nomatch z)
            have kt8 : KTu H6 (upd H7 Rr (.lst (us ++ [to]))) := fun b l z => kR _ _ (kt7 _ _ z)
            refine rest2 _ _ ⟨ys ++ [on x j], us ++ [to], ys.length, rfl, (sH6.kbn hD0 kb7).kbn hR KB.write, kt8, upd_same, ?_, R.keep nm7 (upd_ne DR.symm), by rw [upd_ne MR]; exact kb7 _ _ eM6 MD, by rw [upd_ne LR]; exact kb7 _ _ eL6 LD, by rw [List.getElem?_append_right (Nat.le_refl _), Nat.sub_self]; rfl, gr'⟩
            exact paired_snoc (rp6.keep kt8) (R.same rto kt8)
        · rintro σ H5 ⟨ys, us, leads, v10, v11, rfl, s5, kt5, eR5, rp5, nm5, eM5, eL5, ll, gr⟩
          have ll2 : leads.length = many := by rw [ll]; omega
          have g2 := g.next ex gr ll2
          have ly := hbd ys gr.once gr.reach
          obtain ⟨more, emore⟩ := gr.pre
          have lxy : xs.length ≤ ys.length := by rw [emore, List.length_append]; omega
          refine ⟨_, rfl, Or.inl ⟨rfl, _, .of eM5⟩, _, rfl, L, _, rfl, .inl ⟨.of eL5, fun t ht => ?_⟩⟩
          have sT := Same.new (o := .tup ((castI leads).map V.int)) ht
          have nMt : M ≠ t := ne_of_none eM5 ht
          have nRt : Rr ≠ t := ne_of_none eR5 ht
          obtain ⟨oD5, eoD5, nD1, nD2⟩ := R.isD nm5
          have nDt : D ≠ t := ne_of_none eoD5 ht
          have eM6 := sT _ _ eM5
          refine ⟨M, _, _, rfl, rfl, eM6, by rw [List.length_map]; omega, ?_⟩
          have kM : KTu (upd H5 t (.tup ((castI leads).map V.int))) (upd (upd H5 t (.tup ((castI leads).map V.int))) M (.lst (ps.map V.ref ++ [.ref t]))) := ktu_upd eM6 (fun l z => nomatch z)
          have kA : KTu H5 (upd (upd H5 t (.tup ((castI leads).map V.int))) M (.lst (ps.map V.ref ++ [.ref t]))) := fun b l z => kM _ _ (sT.kt _ _ z)
          refine ⟨_, ?_, ys, mv ++ [leads], us, ps ++ [t], _, _, _, _, rfl, rfl, (s5.trans sT).kbn hM0 KB.write, by rw [upd_ne MR.symm]; exact sT _ _ eR5, rp5.keep kA, R.keep nm5 (by rw [upd_ne MD.symm, upd_ne nDt]), by rw [upd_same, List.map_append]; rfl, ?_, g2, by rw [List.length_append]; simp; omega⟩
          · rw [List.length_append]; simp; omega
          · rw [List.map_append]
            exact paired_snoc ((tp.keep kt5).keep kA) (by rw [upd_ne nMt.symm, upd_same])
      · have e : mv.length = xs.length := by omega
        rw [show decide (((ps.length : Nat) : Int) < ((vs.length : Nat) : Int)) = false from decide_eq_false (by omega)]
        refine iteF ⟨_, rfl, iteF ?_⟩
        exact rest _ _ ⟨xs, mv, vs, ps, v8, v9, v10, v11, rfl, s4, eR, rp, eM, tp, g, e⟩
    · rintro σ H Q Q' h ⟨v, e1, v2, n1, e2, l1, v3, e3, v4, n2, e4, l2, i, j, e5, e6, k, e7, z⟩
      refine ⟨v, e1, v2, n1, e2, l1, v3, e3, v4, n2, e4, l2, i, j, e5, e6, k, e7, ?_⟩
      cases k with
      | false =>
        rw [if_neg Bool.false_ne_true] at z ⊢
        obtain ⟨k', e8, q⟩ := z
        exact ⟨k', e8, h _ _ q⟩
      | true =>
        rw [if_pos rfl] at z ⊢
        obtain ⟨v5, e9, i2, j2, e10, e11, k2, e12, q⟩ := z
        exact ⟨v5, e9, i2, j2, e10, e11, k2, e12, h _ _ q⟩
end
end My
set_option Elab.async false
set_option linter.all false
set_option maxRecDepth 100000
set_option maxHeartbeats 4000000
namespace My
open PySem L2
def pairK (p : Nat × Nat) : Key × V := ((Sum.inl (p.1 : Int) : Key), V.int ((p.2 : Nat) : Int))
theorem valV_pairs : ∀ (l : List (Nat × Nat)) (acc : List (Key × V)) (x : Nat), (∃ r, (x, r) ∈ l ∧ valV (mergeK acc (l.map pairK)) (Sum.inl (x : Int)) = some (.int ((r : Nat) : Int))) ∨ ((∀ r, (x, r) ∉ l) ∧ valV (mergeK acc (l.map pairK)) (Sum.inl (x : Int)) = valV acc (Sum.inl (x : Int)))
  | [], acc, x => .inr ⟨(fun r h => by cases h), rfl⟩
  | (y, r) :: l, acc, x => by
    have e : mergeK acc (((y, r) :: l).map pairK) = mergeK (putK acc (Sum.inl (y : Int)) (.int ((r : Nat) : Int))) (l.map pairK) := rfl
    rw [e]
    rcases valV_pairs l (putK acc (Sum.inl (y : Int)) (.int ((r : Nat) : Int))) x with ⟨q, h1, h2⟩ | ⟨h1, h2⟩
    · exact .inl ⟨q, List.mem_cons_of_mem _ h1, h2⟩
    · rw [h2, valV_put]
      by_cases hxy : x = y
      · subst hxy
        exact .inl ⟨r, List.mem_cons_self, if_pos rfl⟩
      · refine .inr ⟨fun q hq => ?_, if_neg fun z => hxy (num_inj _ _ z)⟩
        rcases List.mem_cons.mp hq with z | z
        · exact hxy (by injection z)
        · exact h1 q z
def standsK (ks : List Nat) : List (Key × V) := mergeK [] (ks.zipIdx.map pairK)
def stK (ks : List Nat) (x : Nat) : Nat := match valV (standsK ks) (Sum.inl (x : Int)) with
  | some (.int i) => i.toNat
  | _ => 0
theorem stK_ok {ks : List Nat} {r x : Nat} (hr : r < ks.length) (e : kd ks r = x) : valV (standsK ks) (Sum.inl (x : Int)) = some (.int ((stK ks x : Nat) : Int)) ∧ stK ks x < ks.length ∧ kd ks (stK ks x) = x := by
  have hm : (x, r) ∈ ks.zipIdx := by
    rw [List.mem_zipIdx_iff_getElem?]
    rw [← e]
    exact item_at 0 hr
  rcases valV_pairs ks.zipIdx [] x with ⟨q, h1, h2⟩ | ⟨h1, _⟩
  · have eq : stK ks x = q := by
      unfold stK standsK
      rw [h2]
      simp
    rw [eq]
    rw [List.mem_zipIdx_iff_getElem?] at h1
    refine ⟨h2, (List.getElem?_eq_some_iff.mp h1).1, ?_⟩
    unfold kd
    rw [List.getD_eq_getElem?_getD, h1]; rfl
  · exact absurd hm (h1 r)
def onK (ks : List Nat) (mv : List (List Nat)) (x a : Nat) : Nat := kd ks (stp mv (stK ks x) a)
def yesK (ks : List Nat) (bs : List Bool) (x : Nat) : Bool := bs.getD (stK ks x) false
section
variable {B : Nat} {bs : List Bool} {mv : List (List Nat)} {ks : List Nat}
theorem onK_kd (m : Moves bs.length B mv) (hl : ks.length = bs.length) (iff : ∀ r s, r < bs.length → s < bs.length → (kd ks r = kd ks s ↔ Eqv B bs mv r s)) {r a : Nat} (hr : r < bs.length) (ha : a < B) : onK ks mv (kd ks r) a = kd ks (stp mv r a) := by
  obtain ⟨_, h2, h3⟩ := stK_ok (ks := ks) (r := r) (by omega) rfl
  have e := (iff _ _ (by omega) hr).mp h3
  exact (iff _ _ (m.stp (by omega) ha) (m.stp hr ha)).mpr (e.step ha)
theorem yesK_kd (hl : ks.length = bs.length) (iff : ∀ r s, r < bs.length → s < bs.length → (kd ks r = kd ks s ↔ Eqv B bs mv r s)) {r : Nat} (hr : r < bs.length) : yesK ks bs (kd ks r) = bs.getD r false := by
  obtain ⟨_, h2, h3⟩ := stK_ok (ks := ks) (r := r) (by omega) rfl
  exact (iff _ _ (by omega) hr).mp h3 [] (.nil B)
theorem thin_run (m : Moves bs.length B mv) (hl : ks.length = bs.length) (iff : ∀ r s, r < bs.length → s < bs.length → (kd ks r = kd ks s ↔ Eqv B bs mv r s)) : ∀ (w : List Nat) {r : Nat}, r < bs.length → Word B w → runA (onK ks mv) (kd ks r) w = kd ks (run mv r w)
  | [], _, _, _ => rfl
  | a :: w, r, hr, hw => by
    have ha := hw a List.mem_cons_self
    show runA (onK ks mv) (onK ks mv (kd ks r) a) w = kd ks (run mv (stp mv r a) w)
    rw [onK_kd m hl iff hr ha]
    exact thin_run m hl iff w (m.stp hr ha) fun z hz => hw z (List.mem_cons_of_mem _ hz)
theorem thin_can (m : Moves bs.length B mv) (n0 : 0 < bs.length) (hl : ks.length = bs.length) (iff : ∀ r s, r < bs.length → s < bs.length → (kd ks r = kd ks s ↔ Eqv B bs mv r s)) {xs : List Nat} {mv' : List (List Nat)} (g : Grown (kd ks 0) (onK ks mv) B xs mv') (hx : mv'.length = xs.length) :
    Can B (xs.map (yesK ks bs)) mv' ∧ LEq B (lang (xs.map (yesK ks bs)) mv' 0) (lang bs mv 0) ∧ xs.length ≤ bs.length := by
  have rooms : ∀ (i x : Nat), xs[i]? = some x → ∃ r, r < bs.length ∧ x = kd ks r := fun i x e => by
    obtain ⟨w, hw, ew⟩ := g.reach x (List.mem_of_getElem? e)
    exact ⟨run mv 0 w, m.run n0 hw, by rw [ew, thin_run m hl iff w n0 hw]⟩
  have says : ∀ (i r : Nat), r < bs.length → xs[i]? = some (kd ks r) → LEq B (lang (xs.map (yesK ks bs)) mv' i) (lang bs mv r) := fun i r hr e w hw => by
    have h1 := g.run hx w i _ e hw
    rw [thin_run m hl iff w hr hw] at h1
    unfold lang
    rw [List.getD_eq_getElem?_getD, List.getElem?_map, h1]
    show yesK ks bs (kd ks (run mv r w)) = _
    exact yesK_kd hl iff (m.run hr hw)
  have lb : (xs.map (yesK ks bs)).length = xs.length := List.length_map ..
  refine ⟨⟨?_, ?_, fun i j hi hj e => ?_, ?_, fun i hi => ?_⟩, says 0 0 n0 g.first, ?_⟩
  · rw [lb]; exact (List.getElem?_eq_some_iff.mp g.first).1
  · rw [lb]; exact g.mvs hx
  · rw [lb] at hi hj
    have e1 : xs[i]? = some xs[i] := List.getElem?_eq_getElem hi
    have e2 : xs[j]? = some xs[j] := List.getElem?_eq_getElem hj
    obtain ⟨r, hr, er⟩ := rooms i _ e1
    obtain ⟨s, hs, es⟩ := rooms j _ e2
    rw [er] at e1
    rw [es] at e2
    have q : Eqv B bs mv r s := fun w hw => ((says i r hr e1 w hw).symm.trans (e w hw)).trans (says j s hs e2 w hw)
    have := (iff r s hr hs).mpr q
    exact (List.getElem_inj g.once).mp (by rw [er, es, this])
  · rw [lb]; exact g.go
  · rw [lb] at hi
    have e1 : xs[i]? = some xs[i] := List.getElem?_eq_getElem hi
    obtain ⟨w, hw, ew⟩ := g.reach xs[i] (List.getElem_mem ..)
    have h1 := g.run hx w 0 _ g.first hw
    rw [← ew] at h1
    obtain ⟨a1, a2⟩ := List.getElem?_eq_some_iff.mp h1
    exact ⟨w, hw, (List.getElem_inj g.once).mp a2⟩
  · have : xs.length ≤ ks.length := List.Nodup.length_le_of_subset g.once fun x hx' => by
      obtain ⟨i, hi⟩ := List.getElem?_of_mem hx'
      obtain ⟨r, hr, er⟩ := rooms i x hi
      rw [er]
      exact List.mem_of_getElem? (item_at 0 (show r < ks.length by omega))
    omega
end
def Lthin : List (Pos × Str) := [(⟨65, 13, 65, 68⟩, (("thinned" : Str) ++ ".<locals>.") ++ "<lambda>"), (⟨66, 56, 66, 86⟩, (("thinned" : Str) ++ ".<locals>.") ++ "<lambda>")]
theorem apart2 {p q : Pos × Str} (h : p.1.line ≠ q.1.line) : Apart [p, q] := fun a ha b hb e _ => by
  rcases List.mem_cons.mp ha with z | z
  · rcases List.mem_cons.mp hb with y | y
    · rw [z, y]
    · have y := List.mem_singleton.mp y
      rw [z, y] at e; exact absurd e h
  · have z := List.mem_singleton.mp z
    rcases List.mem_cons.mp hb with y | y
    · rw [z, y] at e; exact absurd e.symm h
    · rw [z, List.mem_singleton.mp y]
def spThin (Tb : Addr) : Sp := fun vs H Q _ => ∃ (ma nm : Addr) (bs : List Bool) (mv : List (List Nat)) (B : Nat), vs = [.ref ma] ∧ MachAt H ma nm bs mv ∧ Moves bs.length B mv ∧ 0 < bs.length ∧ bs.length ≤ 1000 ∧ B ≤ 1000 ∧ Tab H Tb Lthin ∧
  ∀ (p : Addr) (bs' : List Bool) (mv' : List (List Nat)) (H' : Hp), KB Tb H H' → Tab H' Tb Lthin → MachAt H' p nm bs' mv' → Can B bs' mv' → LEq B (lang bs' mv' 0) (lang bs mv 0) → bs'.length ≤ bs.length → Q (.ref p) H'
section
variable {P : Program} {w : World} {K : PySem.W.Frag} {mg : Str → Option Value} {base : Heap}
theorem sc_thinned : FnScope ["machine", "yes", "moves", "kinds", "stands", "onward", "grown"] ["machine"] (defScope s_thinned) := ⟨rfl, rfl, rfl, by decide +kernel, rfl, by decide +kernel, by decide +kernel⟩
set_option maxHeartbeats 16000000 in
theorem ok_thinned {a : Adr} (T : Txt K mg a) (hB : BltAt mg base) : FnOk P w K mg base CX0 4 a.f_thinned a.fd_thinned ["machine"] (spThin a.t_thinned) := by
  have G_kinds_of : FnOk P w K mg base CX0 3 a.f_kinds_of a.fd_kinds_of ["yes", "moves"] (spKinds K) := ok_kinds_of T
  refine T.F_thinned.ok sc_thinned (fun vs H Q E h => ?_) (fun Ar outer sh H vs Q E hr h => ?_)
  · obtain ⟨ma, nm, bs, mv, B, rfl, _⟩ := h
    rfl
  · obtain ⟨ma, nm, bs, mv, B, rfl, hma, mvs, n0, n1, hBB, tab, q⟩ := h
    have hr_kinds_of : Room 3 _ := hr
    have hr_grown : Room 2 _ := hr.mono (by decide)
    refine ⟨_, (pss_cons (ps_set (i := 1) sc_thinned.nd rfl (Or.inr rfl) (pe_ix (ix_tupK K) (pv 0) pe_int (fun _ _ => rfl)))
    (pss_cons (ps_set (i := 2) sc_thinned.nd rfl (Or.inr rfl) (pe_ix (ix_tupK K) (pv 0) pe_int (fun _ _ => rfl)))
    (pss_cons (ps_set (i := 3) sc_thinned.nd rfl (Or.inr rfl) (pe_call G_kinds_of hr_kinds_of rfl T.m_kinds_of T.k_kinds_of T.b_kinds_of .nil pass0 (pa_cons (pv 1) (pa_cons (pv 2) pa_nil))))
    (pss_cons (ps_set (i := 4) sc_thinned.nd rfl (Or.inr rfl) (pe_callTy (call_dictP hr.hd) (by rfl) T.z_dict bt_dict (pa_cons (pe_comp (CompScope.mk' (esc := defScope s_thinned) (N := ["machine", "yes", "moves", "kinds", "stands", "onward", "grown"]) (own := ["room", "kind"]) (frn := []) (frj := []) rfl rfl (by decide +kernel)) rfl (pi_enum rfl T.z_enumerate (pa_cons (pv 3) pa_nil)) (fun _ _ _ _ => (pg_tupK K (n := 2) rfl (pgs_cons (pg_name (i := 0) (show List.Nodup (["room", "kind"] : List Str) by decide +kernel) rfl (Or.inl rfl)) (pgs_cons (pg_name (i := 1) (show List.Nodup (["room", "kind"] : List Str) by decide +kernel) rfl (Or.inl rfl)) pgs_nil)))) (fun _ _ _ _ => pifs_nil) (fun _ _ _ _ => (pe_tup (pa_cons (pv 1) (pa_cons (pv 0) pa_nil))))) pa_nil)))
    (pss_cons (ps_set (i := 5) sc_thinned.nd rfl (Or.inl rfl) (pe_lamK (T := a.t_thinned) (L := Lthin) rfl T.h_thinned hB rfl rfl (List.mem_cons_self) (apart2 (by decide)) rfl))
    (pss_cons (ps_set (i := 6) sc_thinned.nd rfl (Or.inl rfl) (pe_callW (fun _ => rfl) hr_grown rfl T.m_grown_from T.k_grown_from T.b_grown_from (pa_cons (pe_ix (ix_listK K) (pv 3) pe_int (fun _ _ => rfl)) (pa_cons (pe_callB (call_lenK K) (by rfl) T.z_len bt_len (pa_cons (pe_ix (ix_tupK K) (pv 2) pe_int (fun _ _ => rfl)) pa_nil)) (pa_cons (pv 5) (pa_cons (pe_lamK (T := a.t_thinned) (L := Lthin) rfl T.h_thinned hB rfl rfl (List.mem_cons_of_mem _ List.mem_cons_self) (apart2 (by decide)) rfl) (pa_cons (pe_callB (call_lenK K) (by rfl) T.z_len bt_len (pa_cons (pv 1) pa_nil)) pa_nil)))))))
    (pss_one (ps_ret (pe_tup (pa_cons (pe_ix (ix_tupK K) (pv 0) pe_int (fun _ _ => rfl)) (pa_cons (pe_ix (ix_tupK K) (pv 6) pe_int (fun _ _ => rfl)) (pa_cons (pe_ix (ix_tupK K) (pv 6) pe_int (fun _ _ => rfl)) pa_nil)))))))))))), ?_⟩
    have big : (100000 : Nat) ≤ sizeLine := by decide
    obtain ⟨ya, va, ps, e1, e2, e3, tp⟩ := hma
    refine ⟨_, rfl, ma, _, _, .ref ya, rfl, rfl, .of e1, atI_nat (j := 1) rfl, ?_⟩
    dsimp only [gName]
    refine ⟨_, rfl, ma, _, _, .ref va, rfl, rfl, .of e1, atI_nat (j := 2) rfl, ?_⟩
    dsimp only [gName]
    refine ⟨_, rfl, _, rfl, ya, va, ps, bs, mv, B, rfl, e2, e3, tp, mvs, n0, n1, hBB, fun d ks H1 hd s1 l1 lk iff => ?_⟩
    dsimp only [gName]
    refine ⟨_, rfl, d, rfl, ⟨_, .of l1⟩, fun C hC => ?_⟩
    refine comp_enum (xs := (castI ks).map V.int) (fun j σ H' => ∃ (v0 v1 : Option V) (ps2 : List Addr), σ = [v0, v1] ∧ Same H1 H' ∧ H' C = some (.lst (ps2.map V.ref)) ∧ ps2.length = j ∧ Paired (fun (p : Addr) (x : Key × V) => H' p = some (.tup [kV x.1, x.2])) ps2 ((ks.zipIdx.take j).map pairK))
      ⟨none, none, [], ?sg, Same.new hC, upd_same, rfl, .nil⟩ (fun j σ H' _ ⟨_, _, _, _, s', _⟩ => .of (s' _ _ l1)) ?_ ?_
    case sg => rfl
    · rintro j y p σ H2 hy ⟨v0, v1, ps2, rfl, s2, c2, lp, pr⟩ hp
      obtain ⟨kk, rfl, ek⟩ := natItem hy
      have hj : j < ks.length := (List.getElem?_eq_some_iff.mp ek).1
      have ez : ks.zipIdx[j]? = some (kk, j) := by rw [List.getElem?_zipIdx, ek]; simp
      have sp := Same.new (o := .tup [.int (j : Nat), .int (kk : Nat)]) hp
      refine ⟨p, _, rfl, .of upd_same, rfl, _, _, rfl, _, _, rfl, rfl, ?_⟩
      refine ⟨_, rfl, _, rfl, by show 2 ≤ sizeLine; omega, fun t ht => ?_⟩
      have st := Same.new (o := .tup [.int (kk : Nat), .int (j : Nat)]) ht
      have c3 := st _ _ (sp _ _ c2)
      have nCt : C ≠ t := ne_of_none (sp _ _ c2) ht
      refine ⟨_, c3, by rw [List.length_map]; omega, _, _, ps2 ++ [t], rfl, ((s2.trans sp).trans st).kbn hC KB.write, by rw [upd_same, List.map_append]; rfl, by rw [List.length_append, lp]; rfl, ?_⟩
      rw [take_snoc ez, List.map_append]
      refine paired_snoc (Paired.mapP pr fun b x z => ?_) ?_
      · have : b ≠ C := ne_of z c2 (fun z => nomatch z)
        rw [upd_ne this]; exact st _ _ (sp _ _ z)
      · rw [upd_ne nCt.symm, upd_same]; rfl
    rintro σ H2 ⟨v0, v1, ps2, rfl, s2, c2, lp, pr⟩
    rw [List.length_map, castI_len, ← List.length_zipIdx (l := ks) (i := 0), List.take_length] at pr
    refine ⟨C, ps2, ks.zipIdx.map pairK, rfl, c2, pr, by rw [List.length_map, List.length_zipIdx]; omega, fun Ds hDs => ?_⟩
    have sD := Same.new (o := .dK (standsK ks)) hDs
    have s3 := (s1.trans s2).trans sD
    have ds3 : (upd H2 Ds (.dK (standsK ks))) Ds = some (.dK (standsK ks)) := upd_same
    have d3 := sD _ _ (s2 _ _ l1)
    change tSeq _ _ _ _ (upd H2 Ds (.dK (standsK ks)))
    generalize upd H2 Ds (.dK (standsK ks)) = H3 at s3 ds3 d3 ⊢
    have tab3 := tab.same s3
    have e13 := s3 _ _ e1
    have e23 := s3 _ _ e2
    have e33 := s3 _ _ e3
    have tp3 := tp.keep s3.kt
    refine ⟨tab3, fun f1 c1 ctv1 H4 hf1 ef1 ec1 tab4 kb4 => ?_⟩
    have T3 : ∃ qs, H3 a.t_thinned = some (.tbl qs) := let ⟨qs, z, _⟩ := tab3; ⟨qs, z⟩
    have T4 : ∃ qs, H4 a.t_thinned = some (.tbl qs) := let ⟨qs, z, _⟩ := tab4; ⟨qs, z⟩
    have nT : ∀ {H : Hp} {b : Addr} {o : HO}, (∃ qs, H a.t_thinned = some (.tbl qs)) → H b = some o → (∀ qs, o ≠ .tbl qs) → b ≠ a.t_thinned := fun ⟨qs, z⟩ e hn y => by rw [y, z] at e; exact hn qs (Option.some.inj e).symm
    have k34 : ∀ {b : Addr} {o : HO}, H3 b = some o → (∀ qs, o ≠ .tbl qs) → H4 b = some o := fun e hn => kb4 _ _ e (nT T3 e hn)
    have kt34 : KTu H3 H4 := fun b xs z => k34 z (fun _ y => nomatch y)
    dsimp only [gName]
    obtain ⟨w1, w2, w3⟩ := mvs.row (tp3.keep kt34) n0
    refine ⟨_, rfl, d, _, _, .int (kd ks 0 : Nat), rfl, rfl, .of (k34 d3 (fun _ y => nomatch y)), atI_nat (j := 0) (castI_item (by omega)), ?_⟩
    refine ⟨_, rfl, va, _, _, .ref (ps.getD 0 0), rfl, rfl, .of (k34 e33 (fun _ y => nomatch y)), atI_nat (j := 0) (by rw [List.getElem?_map, w1]; rfl), .ref (ps.getD 0 0), B, rfl, .inr ⟨_, .of w2, by rw [List.length_map, castI_len, w3]⟩, ?_⟩
    refine ⟨_, rfl, tab4, fun f2 c2 ctv2 H5 hf2 ef2 ec2 tab5 kb5 => ?_⟩
    have k45 : ∀ {b : Addr} {o : HO}, H4 b = some o → (∀ qs, o ≠ .tbl qs) → H5 b = some o := fun e hn => kb5 _ _ e (nT T4 e hn)
    have k35 : ∀ {b : Addr} {o : HO}, H3 b = some o → (∀ qs, o ≠ .tbl qs) → H5 b = some o := fun e hn => k45 (k34 e hn) hn
    have kt35 : KTu H3 H5 := fun b xs z => k35 z (fun _ y => nomatch y)
    refine ⟨_, rfl, _, bs.length, rfl, .inr ⟨_, .of (k35 e23 (fun _ y => nomatch y)), by rw [List.length_map]⟩, ?_⟩
    have ef15 := k45 ef1 (fun _ y => nomatch y)
    have ec15 := k45 ec1 (fun _ y => nomatch y)
    have hD : ∀ b ∈ [f1, c1, f2, c2], ∃ φ, H5 b = some (.ext φ) := fun b hb => by
      simp only [List.mem_cons, List.not_mem_nil, or_false] at hb
      rcases hb with z | z | z | z <;> subst z
      · exact ⟨_, ef15⟩
      · exact ⟨_, ec15⟩
      · exact ⟨_, ef2⟩
      · exact ⟨_, ec2⟩
    refine ⟨[f1, c1, f2, c2], hD, fun base' W => ?_⟩
    let Ev : Hp → Prop := fun H => H d = some (.lst ((castI ks).map V.int)) ∧ H va = some (.tup (ps.map V.ref)) ∧ Tups H ps (mv.map castI) ∧ H Ds = some (.dK (standsK ks)) ∧ H ya = some (.tup (bs.map V.bl))
    let Ok : Nat → Prop := fun x => ∃ r, r < bs.length ∧ x = kd ks r
    have F1 : FnAt P w K mg base' 1 f1 2 (spOn repI B (onK ks mv) Ok Ev) := by
      refine FnAt.lam W ef15 (by simp) ec15 (by simp) (ps := ["kind", "letter"]) (frn := ["kinds", "moves", "stands"]) (fvs := [.ref d, .ref va, .ref Ds]) (LamScope.mk' rfl rfl rfl (by decide +kernel) (by decide +kernel) (by decide +kernel) (by decide +kernel) (by decide +kernel))
        (List.forall_mem_cons.mpr ⟨rfl, List.forall_mem_cons.mpr ⟨rfl, List.forall_mem_cons.mpr ⟨rfl, fun _ h => nomatch h⟩⟩⟩) (.cons ⟨3, rfl, rfl, rfl, rfl⟩ (.cons ⟨2, rfl, rfl, rfl, rfl⟩ (.cons ⟨4, rfl, rfl, rfl, rfl⟩ .nil))) (fun us hl => match us, hl with | [_, _], _ => rfl) (fun vs H Q E h => ?_) (fun A outer s H vs Q E hr h => ?_)
      · obtain ⟨x, v, c, rfl, _⟩ := h
        rfl
      · obtain ⟨x, v, c, rfl, rv, ⟨r, hrn, rfl⟩, hc, ⟨h1, h2, h3, h4, h5⟩, kk⟩ := h
        have rv' : v = .int ((kd ks r : Nat) : Int) := rv
        subst rv'
        obtain ⟨g1, g2, g3⟩ := stK_ok (ks := ks) (r := r) (by omega) rfl
        obtain ⟨x1, x2, x3⟩ := mvs.row h3 (show stK ks (kd ks r) < bs.length by omega)
        refine ⟨_, pe_ix (ix_listK K) (pv 2) (pe_ix (ix_tupK K) (pe_ix (ix_tupK K) (pv 3) (pe_dget (hu_of hr) (pv 4) (pv 0) (fun _ _ => rfl)) (fun _ _ => rfl)) (pv 1) (fun _ _ => rfl)) (fun _ _ => rfl), ?_⟩
        have hst := mvs.stp (show stK ks (kd ks r) < bs.length by omega) hc
        refine ⟨_, rfl, _, rfl, _, rfl, _, rfl, Ds, _, rfl, .inl ⟨standsK ks, Sum.inl ((kd ks r : Nat) : Int), .inl h4, rfl, g1.symm⟩, va, _, _, .ref (ps.getD (stK ks (kd ks r)) 0), rfl, rfl, .of h2, atI_nat (by rw [List.getElem?_map, x1]; rfl), _, rfl, _, _, _, .int (stp mv (stK ks (kd ks r)) c : Nat), rfl, rfl, .of x2, atI_nat (castI_item (by rw [x3]; exact hc)), d, _, _, .int (kd ks (stp mv (stK ks (kd ks r)) c) : Nat), rfl, rfl, .of h1, atI_nat (castI_item (by omega)), ?_⟩
        exact kk _ H (Same.refl H) rfl
    have F2 : FnAt P w K mg base' 1 f2 1 (spYs repI (yesK ks bs) Ok Ev) := by
      refine FnAt.lam W ef2 (by simp) ec2 (by simp) (ps := ["kind"]) (frn := ["stands", "yes"]) (fvs := [.ref Ds, .ref ya]) (LamScope.mk' rfl rfl rfl (by decide +kernel) (by decide +kernel) (by decide +kernel) (by decide +kernel) (by decide +kernel))
        (List.forall_mem_cons.mpr ⟨rfl, List.forall_mem_cons.mpr ⟨rfl, fun _ h => nomatch h⟩⟩) (.cons ⟨4, rfl, rfl, rfl, rfl⟩ (.cons ⟨1, rfl, rfl, rfl, rfl⟩ .nil)) (fun us hl => match us, hl with | [_], _ => rfl) (fun vs H Q E h => ?_) (fun A outer s H vs Q E hr h => ?_)
      · obtain ⟨x, v, rfl, _⟩ := h
        rfl
      · obtain ⟨x, v, rfl, rv, ⟨r, hrn, rfl⟩, ⟨h1, h2, h3, h4, h5⟩, kk⟩ := h
        have rv' : v = .int ((kd ks r : Nat) : Int) := rv
        subst rv'
        obtain ⟨g1, g2, g3⟩ := stK_ok (ks := ks) (r := r) (by omega) rfl
        refine ⟨_, pe_ix (ix_tupK K) (pv 2) (pe_dget (hu_of hr) (pv 1) (pv 0) (fun _ _ => rfl)) (fun _ _ => rfl), ?_⟩
        refine ⟨_, rfl, _, rfl, _, rfl, Ds, _, rfl, .inl ⟨standsK ks, Sum.inl ((kd ks r : Nat) : Int), .inl h4, rfl, g1.symm⟩, ya, _, _, .bl (yesK ks bs (kd ks r)), rfl, rfl, .of h5, atI_nat (by rw [List.getElem?_map, item_at false (show stK ks (kd ks r) < bs.length by omega)]; rfl), ?_⟩
        exact kk H (Same.refl H)
    have okS : ∀ x c, Ok x → c < B → Ok (onK ks mv x c) := fun x c ⟨r, hr, e⟩ hc => ⟨stp mv r c, mvs.stp hr hc, by rw [e, onK_kd mvs lk iff hr hc]⟩
    have evS : ∀ H H', Ev H → Same H H' → Ev H' := fun H H' ⟨h1, h2, h3, h4, h5⟩ s => ⟨s _ _ h1, s _ _ h2, h3.keep s.kt, s _ _ h4, s _ _ h5⟩
    refine ⟨_, ok_grown_from (k := 1) T repI F1 F2 okS evS, ?_⟩
    have u5 : ∀ {b : Addr} {o : HO}, H5 b = some o → (∀ φ, o ≠ .ext φ) → untr [f1, c1, f2, c2] H5 b = some o := fun e hn => untr_get hD e hn
    have ktu : KTu H5 (untr [f1, c1, f2, c2] H5) := fun b xs z => u5 z (fun _ y => nomatch y)
    refine ⟨kd ks 0, .int (kd ks 0 : Nat), bs.length, bs.length, rfl, rfl, ⟨0, n0, rfl⟩, ⟨u5 (k35 d3 (fun _ y => nomatch y)) (fun _ y => nomatch y), u5 (k35 e33 (fun _ y => nomatch y)) (fun _ y => nomatch y), (tp3.keep kt35).keep ktu, u5 (k35 ds3 (fun _ y => nomatch y)) (fun _ y => nomatch y), u5 (k35 e23 (fun _ y => nomatch y)) (fun _ y => nomatch y)⟩, fun l nd hr => ?_, Nat.le_refl _, by omega, hBB, fun xs mv' p Rr ya2 va2 ps' H6 s6 hl g ep eya eva tp' n6 => ?_⟩
    · have : l.length ≤ ks.length := List.Nodup.length_le_of_subset nd fun x hx => by
        obtain ⟨w, hw, ew⟩ := hr x hx
        rw [ew, thin_run mvs lk iff w n0 hw]
        exact List.mem_of_getElem? (item_at 0 (show run mv 0 w < ks.length by have := mvs.run n0 hw; omega))
      omega
    have s57 := retr_same s6
    have o6 : ∀ {b : Addr} {o : HO}, H6 b = some o → retr [f1, c1, f2, c2] H5 H6 b = some o := fun {b o} e => by
      rw [retr_out fun z => ?_]
      · exact e
      · rw [n6 b z] at e; cases e
    have kt6 : KTu H6 (retr [f1, c1, f2, c2] H5 H6) := fun b xs z => o6 z
    have ep7 := o6 ep
    have eya7 := o6 eya
    have eva7 := o6 eva
    have tp7 := tp'.keep kt6
    have tab7 := tab5.same s57
    have e17 := s57 _ _ (k35 e13 (fun _ y => nomatch y))
    have kbAll : KB a.t_thinned H (retr [f1, c1, f2, c2] H5 H6) := fun b o e n => s57 _ _ (kb5 _ _ (kb4 _ _ (s3 _ _ e) n) n)
    generalize retr [f1, c1, f2, c2] H5 H6 = H7 at ep7 eya7 eva7 tp7 tab7 e17 kbAll ⊢
    dsimp only [gName]
    refine ⟨_, rfl, ma, _, _, .ref nm, rfl, rfl, .of e17, atI_nat (j := 0) rfl, _, rfl, p, _, _, .ref ya2, rfl, rfl, .of ep7, atI_nat (j := 1) rfl, _, rfl, p, _, _, .ref va2, rfl, rfl, .of ep7, atI_nat (j := 2) rfl, by show 3 ≤ sizeLine; omega, fun m2 hm2 => ?_⟩
    have sm := Same.new (o := .tup [.ref nm, .ref ya2, .ref va2]) hm2
    obtain ⟨cn, le, ln⟩ := thin_can mvs n0 lk iff g hl
    exact q m2 _ mv' _ (fun b o e n => sm _ _ (kbAll _ _ e n)) (tab7.same sm) ⟨ya2, va2, ps', upd_same, sm _ _ eya7, sm _ _ eva7, tp7.keep sm.kt⟩ cn le (by rw [List.length_map]; exact ln)
end
end My
set_option Elab.async false
set_option linter.all false
set_option maxRecDepth 100000
set_option maxHeartbeats 4000000
namespace My
open PySem L2
def spRooms : Sp := fun vs H Q _ => ∃ (d : Addr) (B n : Nat), vs = [.ref d, .int B, .int n] ∧ Deck2 H d ∧ 0 < n ∧ n ≤ 100 ∧ B ≤ 100 ∧
  ∀ (va : Addr) (ps : List Addr) (mv : List (List Nat)) (H' : Hp), KB d H H' → Deck2 H' d → H' va = some (.tup (ps.map V.ref)) → Tups H' ps (mv.map castI) → Moves n B mv → Q (.ref va) H'
section
variable {P : Program} {w : World} {K : PySem.W.Frag} {mg : Str → Option Value} {base : Heap}
theorem sc_l_rooms : FnScope ["_law_deck_here", "_law_letters_here", "_law_many", "_law_moves", "_law_room"] ["_law_deck_here", "_law_letters_here", "_law_many"] (defScope s_l_rooms) := ⟨rfl, rfl, rfl, by decide +kernel, rfl, by decide +kernel, by decide +kernel⟩
theorem ok_l_rooms {a : Adr} (T : Txt K mg a) : FnOk P w K mg base CX0 2 a.f_l_rooms a.fd_l_rooms ["_law_deck_here", "_law_letters_here", "_law_many"] spRooms := by
  have G_l_next : FnOk P w K mg base CX0 1 a.f_l_next a.fd_l_next ["_law_deck_here", "_law_many"] spNext2 := ok_l_next T
  refine T.F_l_rooms.ok sc_l_rooms (fun vs H Q E h => ?_) (fun cdv A outer s H vs Q E hr h => ?_)
  · obtain ⟨d, B, n, rfl, _⟩ := h
    rfl
  · obtain ⟨d, B, n, rfl, hd, n0, n1, hB, k⟩ := h
    have hr_l_next : Room 1 _ := hr
    refine ⟨_, (pss_cons (ps_set (i := 3) sc_l_rooms.nd rfl (Or.inl rfl) (pe_lst pa_nil))
    (pss_cons (ps_for PassesOwn.never rfl (pi_range1 rfl T.z_range (pa_cons (pv 2) pa_nil)) (pg_name (i := 4) sc_l_rooms.nd rfl (Or.inl rfl))
      (pss_one (ps_expr (pe_bm PySem.F.plainAttrs_list PySem.F.slot_list_append PySem.F.type_list_append mt_append (pv 3) (pa_cons (pe_callTy (call_tupleK K) (by rfl) T.z_tuple bt_tuple (pa_cons (pe_comp (CompScope.mk' (esc := defScope s_l_rooms) (N := ["_law_deck_here", "_law_letters_here", "_law_many", "_law_moves", "_law_room"]) (own := ["_law_k"]) (frn := ["_law_deck_here", "_law_many"]) (frj := [0, 2]) rfl rfl (by decide +kernel)) rfl (pi_range1 rfl T.z_range (pa_cons (pv 1) pa_nil)) (fun _ _ _ _ => (pg_name (i := 0) (show List.Nodup (["_law_k", "_law_deck_here", "_law_many"] : List Str) by decide +kernel) rfl (Or.inl rfl))) (fun _ _ _ _ => pifs_nil) (fun _ _ _ _ => (pe_call G_l_next hr_l_next rfl T.m_l_next T.k_l_next T.b_l_next .nil pass0 (pa_cons (pv 1) (pa_cons (pv 2) pa_nil))))) pa_nil)) pa_nil)))))
    (pss_one (ps_ret (pe_callTy (call_tupleK K) (by rfl) T.z_tuple bt_tuple (pa_cons (pv 3) pa_nil)))))), ?_⟩
    have big : (10000 : Nat) ≤ sizeLine := by decide
    refine ⟨by decide, fun M hM => ?_⟩
    have nM := hd.nd hM
    have sM := Same.new (o := .lst []) hM
    dsimp only [gName]
    refine ⟨_, rfl, _, rfl, by omega, by omega, for_range (n := (n : Int).toNat) (fun i σ H' => ∃ (ps : List Addr) (mv : List (List Nat)) (v4 : Option V), σ = [some (.ref d), some (.int (B : Nat)), some (.int (n : Nat)), some (.ref M), v4] ∧ KB d H H' ∧ Deck2 H' d ∧ H' M = some (.lst (ps.map V.ref)) ∧ Tups H' ps (mv.map castI) ∧ mv.length = i ∧ ∀ l ∈ mv, l.length = B ∧ ∀ x ∈ l, x < n)
      ⟨[], [], none, rfl, sM.kb, hd.same sM, upd_same, .nil, rfl, fun l hl => (by cases hl)⟩ ?_ ?_⟩
    · rintro i σ H2 hi ⟨ps, mv, v4, rfl, k2, d2, m2, tp2, lm, ok⟩
      rw [Int.toNat_natCast] at hi
      refine ⟨_, rfl, .inl ⟨rfl, _, .of m2⟩, _, rfl, _, rfl, by omega, by omega, fun C hC => ?_⟩
      have nC := d2.nd hC
      refine comp_range (fun j σ H' => ∃ (rs : List Nat) (v : Option V), σ = [v, some (.ref d), some (.int (n : Nat))] ∧ KB d H2 H' ∧ Deck2 H' d ∧ H' C = some (.lst ((castI rs).map V.int)) ∧ rs.length = j ∧ ∀ r ∈ rs, r < n)
        ⟨[], none, ?sg, (Same.new hC).kb, d2.same (Same.new hC), upd_same, rfl, fun r hr => (by cases hr)⟩ ?_ ?_
      case sg => rfl
      · rintro j σ H3 hj ⟨rs, v, rfl, k3, d3, c3, lr, hrs⟩
        rw [Int.toNat_natCast] at hj
        refine ⟨_, rfl, _, rfl, d, (n : Int), rfl, d3, by omega, fun q H4 q0 q1 k4 d4 => ?_⟩
        obtain ⟨q', rfl⟩ := toN q0
        refine ⟨_, k4 _ _ c3 nC, ?_, rs ++ [q'], _, rfl, KB.updN (k3.trans k4) hC, d4.upd nC, ?_, by rw [List.length_append, lr]; rfl, fun x hx => ?_⟩
        · rw [List.length_map, castI_len]; omega
        · rw [upd_same, castI_app, List.map_append]; rfl
        · rcases List.mem_append.mp hx with z | z
          · exact hrs x z
          · rw [List.mem_singleton.mp z]; omega
      rintro σ H3 ⟨rs, v, rfl, k3, d3, c3, lr, hrs⟩
      rw [Int.toNat_natCast] at lr
      have m3 := k3 _ _ m2 nM
      refine ⟨C, _, rfl, .inl ⟨.of c3, fun D hD => ?_⟩⟩
      have sD := Same.new (o := .tup ((castI rs).map V.int)) hD
      have m4 := sD _ _ m3
      have tp4 : Tups (upd H3 D (.tup ((castI rs).map V.int))) ps (mv.map castI) := (tp2.keep (d2.ktu k3)).keep sD.kt
      have lps : ps.length = i := by rw [Paired.length tp2, List.length_map, lm]
      have ktM : KTu (upd H3 D (.tup ((castI rs).map V.int))) (upd (upd H3 D (.tup ((castI rs).map V.int))) M (.lst (ps.map V.ref ++ [.ref D]))) := KTu.lst m4
      refine ⟨M, _, _, rfl, rfl, m4, ?_, ps ++ [D], mv ++ [rs], _, rfl, ?_, ?_, ?_, ?_, by rw [List.length_append, lm]; rfl, fun l hl => ?_⟩
      · rw [List.length_map, lps]; omega
      · exact KB.updN ((k2.trans k3).trans sD.kb) hM
      · exact (d3.same sD).upd nM
      · rw [upd_same, List.map_append]; rfl
      · rw [List.map_append]
        exact paired_append (tp4.keep ktM) (.cons (ktM _ _ upd_same) .nil)
      · rcases List.mem_append.mp hl with z | z
        · exact ok l z
        · rw [List.mem_singleton.mp z]; exact ⟨lr, hrs⟩
    rintro σ H2 ⟨ps, mv, v4, rfl, k2, d2, m2, tp2, lm, ok⟩
    rw [Int.toNat_natCast] at lm
    refine ⟨_, rfl, M, _, rfl, .inl ⟨.of m2, fun V' hV => ?_⟩⟩
    have sV := Same.new (o := .tup (ps.map V.ref)) hV
    exact k V' ps mv _ (k2.trans sV.kb) (d2.same sV) upd_same (tp2.keep sV.kt) ⟨lm, ok⟩
end
end My
set_option Elab.async false
set_option linter.all false
set_option maxRecDepth 100000
set_option maxHeartbeats 4000000
namespace My
open PySem L2
theorem Moves.at {n b : Nat} {mv : List (List Nat)} (h : Moves n b mv) {r f : Nat} (hr : r < n) (hf : f < b) : ((mv.getD r []).getD f 0) < n := by
  have h1 : mv[r]? = some (mv.getD r []) := item_at [] (by rw [h.len]; exact hr)
  obtain ⟨l1, l2⟩ := h.lead _ (List.mem_of_getElem? h1)
  have h2 := item_at 0 (show f < (mv.getD r []).length by omega)
  exact l2 _ (List.mem_of_getElem? h2)
def itr (f : Nat → Nat) : Nat → Nat → Nat
  | 0, x => x
  | k + 1, x => f (itr f k x)
theorem itr_add (f : Nat → Nat) : ∀ a b x, itr f (a + b) x = itr f a (itr f b x)
  | 0, b, x => by rw [Nat.zero_add]; rfl
  | a + 1, b, x => by rw [Nat.succ_add]; exact congrArg f (itr_add f a b x)
theorem itr_lt {f : Nat → Nat} {n : Nat} (h : ∀ x, x < n → f x < n) : ∀ k x, x < n → itr f k x < n
  | 0, x, hx => hx
  | k + 1, x, hx => h _ (itr_lt h k x hx)
theorem pig : ∀ (n : Nat) (g : Nat → Nat), (∀ k, k ≤ n → g k < n) → ∃ i j, i < j ∧ j ≤ n ∧ g i = g j
  | 0, g, h => absurd (h 0 (Nat.le_refl _)) (Nat.not_lt_zero _)
  | n + 1, g, h => by
    by_cases e : ∃ i, i ≤ n ∧ g i = g (n + 1)
    · obtain ⟨i, hi, e⟩ := e
      exact ⟨i, n + 1, by omega, Nat.le_refl _, e⟩
    · have ne : ∀ i, i ≤ n → g i ≠ g (n + 1) := fun i hi z => e ⟨i, hi, z⟩
      have hv := h (n + 1) (Nat.le_refl _)
      obtain ⟨i, j, hij, hj, eq⟩ := pig n (fun k => if g (n + 1) < g k then g k - 1 else g k) (fun k hk => by
        have h1 := h k (by omega)
        have h2 := ne k hk
        show (if g (n + 1) < g k then g k - 1 else g k) < n
        split <;> omega)
      refine ⟨i, j, hij, by omega, ?_⟩
      have h1 := ne i (by omega)
      have h2 := ne j hj
      have eq' : (if g (n + 1) < g i then g i - 1 else g i) = (if g (n + 1) < g j then g j - 1 else g j) := eq
      split at eq' <;> split at eq' <;> omega
theorem ring {f : Nat → Nat} {n r : Nat} (h : ∀ x, x < n → f x < n) (hr : r < n) : ∃ p, 0 < p ∧ p ≤ n ∧ itr f p (itr f n r) = itr f n r := by
  obtain ⟨i, j, hij, hj, e⟩ := pig n (fun k => itr f k r) (fun k _ => itr_lt h k r hr)
  refine ⟨j - i, by omega, by omega, ?_⟩
  have e1 : itr f n r = itr f (n - j) (itr f j r) := by rw [← itr_add]; congr 1; omega
  have e2 : itr f (j - i) (itr f n r) = itr f (n - i) (itr f j r) := by rw [e1, ← itr_add]; congr 1; omega
  have e3 : itr f n r = itr f (n - i) (itr f i r) := by rw [← itr_add]; congr 1; omega
  rw [e2, e3]
  exact congrArg _ e.symm
def spYes : Sp := fun vs H Q _ => ∃ (d va : Addr) (ps : List Addr) (n B : Nat) (mv : List (List Nat)), vs = [.ref d, .ref va] ∧ Deck2 H d ∧ H va = some (.tup (ps.map V.ref)) ∧ Tups H ps (mv.map castI) ∧ Moves n B mv ∧ 0 < B ∧ n ≤ 1000 ∧
  ∀ (ya : Addr) (bs : List Bool) (H' : Hp), KB d H H' → Deck2 H' d → H' ya = some (.tup (bs.map V.bl)) → bs.length = n → Q (.ref ya) H'
section
variable {P : Program} {w : World} {K : PySem.W.Frag} {mg : Str → Option Value} {base : Heap}
theorem sc_l_yes : FnScope ["_law_deck_here", "_law_moves", "_law_bits", "_law_yes_here", "_law_room", "_law_here", "_law_turn", "_law_ring"] ["_law_deck_here", "_law_moves"] (defScope s_l_yes) := ⟨rfl, rfl, rfl, by decide +kernel, rfl, by decide +kernel, by decide +kernel⟩
theorem ok_l_yes {a : Adr} (T : Txt K mg a) : FnOk P w K mg base CX0 2 a.f_l_yes a.fd_l_yes ["_law_deck_here", "_law_moves"] spYes := by
  have G_l_next : FnOk P w K mg base CX0 1 a.f_l_next a.fd_l_next ["_law_deck_here", "_law_many"] spNext2 := ok_l_next T
  refine T.F_l_yes.ok sc_l_yes (fun vs H Q E h => ?_) (fun cdv A outer s H vs Q E hr h => ?_)
  · obtain ⟨d, va, ps, n, B, mv, rfl, _⟩ := h
    rfl
  · obtain ⟨d, va, ps, n, B, mv, rfl, hd, eM, tp, hm, hb, hn, k⟩ := h
    have hr_l_next : Room 1 _ := hr
    refine ⟨_, (pss_cons (ps_setComp (i := 2) (CompScope.mk' (esc := defScope s_l_yes) (N := ["_law_deck_here", "_law_moves", "_law_bits", "_law_yes_here", "_law_room", "_law_here", "_law_turn", "_law_ring"]) (own := ["_law_room"]) (frn := ["_law_deck_here"]) (frj := [0]) rfl rfl (by decide +kernel)) rfl (pi_tup (pv 1)) (fun _ _ _ _ => (pg_name (i := 0) (show List.Nodup (["_law_room", "_law_deck_here"] : List Str) by decide +kernel) rfl (Or.inl rfl))) (fun _ _ _ _ => pifs_nil) (fun _ _ _ _ => (pe_cmpR op_eq (pe_call G_l_next hr_l_next rfl T.m_l_next T.k_l_next T.b_l_next .nil pass0 (pa_cons (pv 1) (pa_cons pe_int pa_nil))) pe_int (nomark _))) sc_l_yes.nd rfl rfl)
    (pss_cons (ps_set (i := 3) sc_l_yes.nd rfl (Or.inl rfl) (pe_lst pa_nil))
    (pss_cons (ps_for PassesOwn.never rfl (pi_range1 rfl T.z_range (pa_cons (pe_callB (call_lenK K) (by rfl) T.z_len bt_len (pa_cons (pv 1) pa_nil)) pa_nil)) (pg_name (i := 4) sc_l_yes.nd rfl (Or.inl rfl))
      (pss_cons (ps_set (i := 5) sc_l_yes.nd rfl (Or.inl rfl) (pv 4))
      (pss_cons (ps_for PassesOwn.never rfl (pi_range1 rfl T.z_range (pa_cons (pe_callB (call_lenK K) (by rfl) T.z_len bt_len (pa_cons (pv 1) pa_nil)) pa_nil)) (pg_name (i := 6) sc_l_yes.nd rfl (Or.inl rfl))
        (pss_one (ps_set (i := 5) sc_l_yes.nd rfl (Or.inl rfl) (pe_ix (ix_tupK K) (pe_ix (ix_tupK K) (pv 1) (pv 5) (fun _ _ => rfl)) pe_int (fun _ _ => rfl)))))
      (pss_cons (ps_set (i := 7) sc_l_yes.nd rfl (Or.inl rfl) (pe_lst (pa_cons (pv 5) pa_nil)))
      (pss_cons (ps_while PassesOwn.never (pt_cmpR op_ne (pe_ix (ix_tupK K) (pe_ix (ix_tupK K) (pv 1) (pe_ix (ix_listK K) (pv 7) (pe_un un_neg pe_int) (fun _ _ => rfl)) (fun _ _ => rfl)) pe_int (fun _ _ => rfl)) (pv 5) (nomark _))
        (pss_one (ps_expr (pe_bm PySem.F.plainAttrs_list PySem.F.slot_list_append PySem.F.type_list_append mt_append (pv 7) (pa_cons (pe_ix (ix_tupK K) (pe_ix (ix_tupK K) (pv 1) (pe_ix (ix_listK K) (pv 7) (pe_un un_neg pe_int) (fun _ _ => rfl)) (fun _ _ => rfl)) pe_int (fun _ _ => rfl)) pa_nil)))))
      (pss_one (ps_expr (pe_bm PySem.F.plainAttrs_list PySem.F.slot_list_append PySem.F.type_list_append mt_append (pv 3) (pa_cons (pe_ix (ix_listK K) (pv 2) (pe_callB (call_minK K rfl) (by rfl) T.z_min bt_min (pa_cons (pv 7) pa_nil)) (fun _ _ => rfl)) pa_nil)))))))))
    (pss_one (ps_ret (pe_callTy (call_tupleK K) (by rfl) T.z_tuple bt_tuple (pa_cons (pv 3) pa_nil))))))), ?_⟩
    have big : (10000 : Nat) ≤ sizeLine := by decide
    have lp : ps.length = n := by rw [Paired.length tp, List.length_map, hm.len]
    let f : Nat → Nat := fun x => (mv.getD x []).getD 0 0
    have hf : ∀ x, x < n → f x < n := fun x hx => hm.at hx hb
    have look : ∀ {H' : Hp} (x : Nat), KTu H H' → x < n → SqT K H' va (ps.map V.ref) ∧ atI (ps.map V.ref) (x : Int) = some (.ref (ps.getD x 0)) ∧ SqT K H' (ps.getD x 0) ((castI (mv.getD x [])).map V.int) ∧ atI ((castI (mv.getD x [])).map V.int) 0 = some (.int (f x : Nat)) := fun x s hx => by
      obtain ⟨h1, h2, h3⟩ := hm.row tp hx
      exact ⟨.of (s _ _ eM), atI_nat (by rw [List.getElem?_map, h1]; rfl), .of (s _ _ h2), atI_nat (j := 0) (castI_item (by omega))⟩
    refine ⟨_, rfl, va, rfl, ⟨_, .of eM⟩, fun C hC => ?_⟩
    have nC := hd.nd hC
    refine comp_tup (xs := ps.map V.ref) (fun j σ H' => ∃ (bs : List Bool) (v : Option V), σ = [v, some (.ref d)] ∧ KB d H H' ∧ Deck2 H' d ∧ H' C = some (.lst (bs.map V.bl)) ∧ bs.length = j)
      ⟨[], none, ?sg, (Same.new hC).kb, hd.same (Same.new hC), upd_same, rfl⟩ (fun j σ H' _ ⟨_, _, _, k', _⟩ => .of (hd.ktu k' _ _ eM)) ?_ ?_
    case sg => rfl
    · rintro j x σ H3 hx ⟨bs, v, rfl, k3, d3, y3, lb⟩
      have hj : j < ps.length := by have := (List.getElem?_eq_some_iff.mp hx).1; rwa [List.length_map] at this
      refine ⟨_, rfl, d, 2, rfl, d3, by decide, fun q H4 q0 q1 k4 d4 => ⟨rfl, ?_⟩⟩
      refine ⟨_, k4 _ _ y3 nC, ?_, bs ++ [decide (V.int q = V.int 1)], _, rfl, KB.updN (k3.trans k4) hC, d4.upd nC, ?_, by rw [List.length_append, lb]; rfl⟩
      · rw [List.length_map]; omega
      · rw [upd_same, List.map_append]; rfl
    rintro σ H0 ⟨bs, v, rfl, k0, d0, y0, lb⟩
    rw [List.length_map, lp] at lb
    have t0 := hd.ktu k0
    dsimp only [gName]
    refine ⟨by decide, fun D hD => ?_⟩
    have sD := Same.new (o := .lst []) hD
    dsimp only [gName]
    refine ⟨_, rfl, _, n, rfl, .inr ⟨_, .of ((t0.trans sD.kt) _ _ eM), by rw [List.length_map, lp]⟩, _, rfl, by omega, by omega, for_range (n := (n : Int).toNat) (fun i σ H' => ∃ (rs : List Bool) (v4 v5 v6 v7 : Option V), σ = [some (.ref d), some (.ref va), some (.ref C), some (.ref D), v4, v5, v6, v7] ∧ Same H0 H' ∧ H' D = some (.lst (rs.map V.bl)) ∧ rs.length = i)
      ⟨[], none, none, none, none, rfl, sD, upd_same, rfl⟩ ?_ ?_⟩
    · rintro i σ H1 hi ⟨rs, v4, v5, v6, v7, rfl, s1, d1, lr⟩
      rw [Int.toNat_natCast] at hi
      have t1 := t0.trans s1.kt
      have ei : (0 : Int) + (i : Int) = ((itr f 0 i : Nat) : Int) := by show _ = (i : Int); omega
      dsimp only [gName]
      refine ⟨_, rfl, _, rfl, _, n, rfl, .inr ⟨_, .of (t1 _ _ eM), by rw [List.length_map, lp]⟩, _, rfl, by omega, by omega, for_range (n := (n : Int).toNat) (fun j σ H' => ∃ v6 : Option V, σ = [some (.ref d), some (.ref va), some (.ref C), some (.ref D), some (.int (0 + (i : Int))), some (.int (itr f j i : Nat)), v6, v7] ∧ H' = H1)
        ⟨v6, ?st, rfl⟩ ?_ ?_⟩
      case st => rw [← ei]; rfl
      · rintro j σ H2 hj ⟨v6, rfl, rfl⟩
        obtain ⟨l1, l2, l3, l4⟩ := look (itr f j i) t1 (itr_lt hf j i hi)
        exact ⟨_, rfl, _, rfl, va, _, _, _, rfl, rfl, l1, l2, _, _, _, _, rfl, rfl, l3, l4, _, rfl, rfl⟩
      rintro σ H2 ⟨v6, rfl, rfl⟩
      rw [Int.toNat_natCast]
      have hat := itr_lt hf n i hi
      obtain ⟨p, hp0, hpn, hp⟩ := ring hf hi
      generalize itr f n i = at_ at hat hp ⊢
      refine ⟨_, rfl, by show 1 ≤ sizeLine; decide, fun R hR => ?_⟩
      have sR := Same.new (o := .lst [.int (at_ : Nat)]) hR
      have nRD : D ≠ R := ne_of_none d1 hR
      have nR0 : H0 R = none := s1.free hR
      dsimp only [gName]
      refine whileM (fun m σ H' => ∃ (ks : List Nat) (j : Nat), m = p - j ∧ j < p ∧ σ = [some (.ref d), some (.ref va), some (.ref C), some (.ref D), some (.int (0 + (i : Int))), some (.int (at_ : Nat)), v6, some (.ref R)] ∧ Same H0 H' ∧ H' D = some (.lst (rs.map V.bl)) ∧ H' R = some (.lst ((castI (ks ++ [itr f j at_])).map V.int)) ∧ ks.length = j ∧ (∀ x ∈ ks, x < n))
        ⟨_, [], 0, rfl, hp0, rfl, s1.trans sR, by rw [upd_ne nRD]; exact d1, upd_same, rfl, fun x hx => (by cases hx)⟩ ?_ ?_
      · rintro m σ H2 ⟨ks, j, rfl, hj, rfl, s2, d2, r2, lk, hks⟩
        have hc := itr_lt hf j at_ hat
        have stp' : itr f (j + 1) at_ = f (itr f j at_) := rfl
        obtain ⟨l1, l2, l3, l4⟩ := look (itr f j at_) (t0.trans s2.kt) hc
        have lst : ∀ c : Nat, (castI (ks ++ [c])).map V.int = (castI ks).map V.int ++ [.int (c : Nat)] := fun c => by rw [castI_app, List.map_append]; rfl
        have la : atI ((castI (ks ++ [itr f j at_])).map V.int) (-1) = some (.int (itr f j at_ : Nat)) := by rw [lst]; exact atI_last _ _
        have len : ((castI (ks ++ [itr f j at_])).map V.int).length < sizeLine := by rw [List.length_map, castI_len, List.length_append, lk]; show j + 1 < _; omega
        generalize itr f j at_ = c at *
        refine ⟨_, rfl, _, rfl, _, rfl, R, _, _, _, rfl, rfl, .of r2, la, va, _, _, _, rfl, rfl, l1, l2, _, _, _, _, rfl, rfl, l3, l4, _, rfl, rfl, _, rfl, ?_⟩
        refine ite2 (fun z => ?_) (fun _ => ?_)
        · have ne : f c ≠ at_ := fun y => by rw [y] at z; simp at z
          have lt : j + 1 < p := by
            rcases Nat.lt_or_ge (j + 1) p with y | y
            · exact y
            · have e : p = j + 1 := by omega
              rw [e, stp'] at hp
              exact absurd hp ne
          refine ⟨_, rfl, .inl ⟨rfl, _, .of r2⟩, _, rfl, _, rfl, _, rfl, R, _, _, _, rfl, rfl, .of r2, la, va, _, _, _, rfl, rfl, l1, l2, _, _, _, _, rfl, rfl, l3, l4, R, _, _, rfl, rfl, r2, len, p - (j + 1), by omega, ks ++ [c], j + 1, rfl, lt, rfl, s2.kbn nR0 KB.write, by rw [upd_ne nRD]; exact d2, ?_, by rw [List.length_append, lk]; rfl, fun x hx => ?_⟩
          · rw [upd_same, stp', castI_app (ks ++ [c]), List.map_append]; rfl
          · rcases List.mem_append.mp hx with y | y
            · exact hks x y
            · rw [List.mem_singleton.mp y]; exact hc
        · refine ⟨_, rfl, .inl ⟨rfl, _, .of d2⟩, _, rfl, _, rfl, R, _, rfl, .of r2, ?nn, fun m hmm => ?_⟩
          case nn => intro z; have := congrArg List.length z; rw [castI_len, List.length_append] at this; cases this
          obtain ⟨x, hx, rfl⟩ := List.mem_map.mp hmm
          have hxn : x < n := by
            rcases List.mem_append.mp hx with y | y
            · exact hks x y
            · rw [List.mem_singleton.mp y]; exact hc
          have y2 := s2 _ _ y0
          refine ⟨C, _, _, .bl (bs.getD x false), rfl, rfl, .of y2, atI_nat (by rw [List.getElem?_map, item_at false (show x < bs.length by omega)]; rfl), ?_⟩
          refine ⟨D, _, _, rfl, rfl, d2, ?_, rs ++ [bs.getD x false], _, _, _, _, rfl, s2.kbn hD KB.write, ?_, by rw [List.length_append, lr]; rfl⟩
          · rw [List.length_map]; omega
          · rw [upd_same, List.map_append]; rfl
      · rintro σ H Q Q' hQ ⟨v1, e1, v2, e2, v3, e3, a1, x1, i1, w1, e4, e5, h6, h7, a2, x2, i2, w2, e8, e9, h10, h11, a3, x3, i3, w3, e12, e13, h14, h15, v4, e16, e17, b, e18, q⟩
        exact ⟨v1, e1, v2, e2, v3, e3, a1, x1, i1, w1, e4, e5, h6, h7, a2, x2, i2, w2, e8, e9, h10, h11, a3, x3, i3, w3, e12, e13, h14, h15, v4, e16, e17, b, e18, hQ _ _ q⟩
    · rintro σ H1 ⟨rs, v4, v5, v6, v7, rfl, s1, d1, lr⟩
      rw [Int.toNat_natCast] at lr
      refine ⟨_, rfl, D, _, rfl, .inl ⟨.of d1, fun ya hya => ?_⟩⟩
      have sy := Same.new (o := .tup (rs.map V.bl)) hya
      have s2 := s1.trans sy
      exact k ya rs _ (k0.trans s2.kb) (d0.same s2) upd_same lr
end
end My
set_option Elab.async false
set_option linter.all false
set_option maxRecDepth 100000
set_option maxHeartbeats 4000000
namespace My
open PySem L2
def lets (b : Nat) : Nat → List (List Int)
  | 0 => [[]]
  | n + 1 => (lets b n).flatMap fun l => (List.range b).map fun (f : Nat) => l ++ [(f : Int)]
theorem lets_len (b : Nat) : ∀ n, (lets b n).length = b ^ n
  | 0 => rfl
  | n + 1 => by
    show ((lets b n).flatMap fun l => (List.range b).map fun (f : Nat) => l ++ [(f : Int)]).length = _
    rw [List.length_flatMap]
    have : (List.map (fun l : List Int => ((List.range b).map fun (f : Nat) => l ++ [(f : Int)]).length) (lets b n)) = List.replicate (lets b n).length b := by
      rw [List.map_congr_left (g := fun _ => b) (fun l _ => by simp)]
      exact List.map_const' ..
    rw [this, List.sum_replicate_nat, lets_len b n, Nat.pow_succ]
theorem lets_mem (b : Nat) : ∀ (n : Nat) (l : List Int), l ∈ lets b n → l.length = n
  | 0, l, h => by
    have h' : l ∈ [([] : List Int)] := h
    simp at h'; subst h'; rfl
  | n + 1, l, h => by
    have h' : l ∈ (lets b n).flatMap fun l => (List.range b).map fun (f : Nat) => l ++ [(f : Int)] := h
    obtain ⟨l', h1, h2⟩ := List.mem_flatMap.mp h'
    obtain ⟨f, _, rfl⟩ := List.mem_map.mp h2
    rw [List.length_append, lets_mem b n l' h1]; rfl
theorem flat_len (b : Nat) (ls : List (List Int)) : (ls.flatMap fun l => (List.range b).map fun (f : Nat) => l ++ [(f : Int)]).length = ls.length * b := by
  rw [List.length_flatMap]
  have : (List.map (fun l : List Int => ((List.range b).map fun (f : Nat) => l ++ [(f : Int)]).length) ls) = List.replicate ls.length b := by
    rw [List.map_congr_left (g := fun _ => b) (fun l _ => by simp)]
    exact List.map_const' ..
  rw [this, List.sum_replicate_nat]
def spLetters : Sp := fun vs H Q _ => ∃ (b n : Nat), vs = [.int b, .int n] ∧ b ≤ 4 ∧ n ≤ 4 ∧ ∀ (D : Addr) (ps : List Addr) (H' : Hp), H D = none → Same H H' → H' D = some (.lst (ps.map V.ref)) → Tups H' ps (lets b n) → Q (.ref D) H'
section
variable {P : Program} {w : World} {K : PySem.W.Frag} {mg : Str → Option Value} {base : Heap}
theorem sc_l_letters : FnScope ["_law_base", "_law_many", "_law_found", "_law_turn", "_law_wider", "_law_letter"] ["_law_base", "_law_many"] (defScope s_l_letters) := ⟨rfl, rfl, rfl, by decide +kernel, rfl, by decide +kernel, by decide +kernel⟩
theorem small_pow {b n : Nat} (hb : b ≤ 4) (hn : n ≤ 4) : b ^ n ≤ 256 :=
  Nat.le_trans (Nat.pow_le_pow_left hb n) (Nat.pow_le_pow_right (by decide) hn)
theorem ok_l_letters {a : Adr} (T : Txt K mg a) : FnOk P w K mg base CX0 1 a.f_l_letters a.fd_l_letters ["_law_base", "_law_many"] spLetters := by
  refine T.F_l_letters.ok sc_l_letters (fun vs H Q E h => ?_) (fun cdv A outer s H vs Q E hr h => ?_)
  · obtain ⟨b, n, rfl, _⟩ := h
    rfl
  · obtain ⟨b, n, rfl, hb, hn, k⟩ := h
    refine ⟨_, (pss_cons (ps_set (i := 2) sc_l_letters.nd rfl (Or.inl rfl) (pe_lst (pa_cons (pe_tup pa_nil) pa_nil)))
    (pss_cons (ps_for PassesOwn.never rfl (pi_range1 rfl T.z_range (pa_cons (pv 1) pa_nil)) (pg_name (i := 3) sc_l_letters.nd rfl (Or.inl rfl))
      (pss_cons (ps_set (i := 4) sc_l_letters.nd rfl (Or.inl rfl) (pe_lst pa_nil))
      (pss_cons (ps_for PassesOwn.never rfl (pi_list (pv 2)) (pg_name (i := 5) sc_l_letters.nd rfl (Or.inr rfl))
        (pss_one (ps_expr (pe_bm PySem.F.plainAttrs_list PySem.F.slot_list_extend PySem.F.type_list_extend mt_extend (pv 4) (pa_cons (pe_comp (CompScope.mk' (esc := defScope s_l_letters) (N := ["_law_base", "_law_many", "_law_found", "_law_turn", "_law_wider", "_law_letter"]) (own := ["_law_figure"]) (frn := ["_law_letter"]) (frj := [5]) rfl rfl (by decide +kernel)) rfl (pi_range1 rfl T.z_range (pa_cons (pv 0) pa_nil)) (fun _ _ _ _ => (pg_name (i := 0) (show List.Nodup (["_law_figure", "_law_letter"] : List Str) by decide +kernel) rfl (Or.inl rfl))) (fun _ _ _ _ => pifs_nil) (fun _ _ _ _ => (pe_op (op_catNK K) (pv 1) (pe_tup (pa_cons (pv 0) pa_nil))))) pa_nil)))))
      (pss_one (ps_set (i := 2) sc_l_letters.nd rfl (Or.inl rfl) (pv 4))))))
    (pss_one (ps_ret (pv 2))))), ?_⟩
    refine ⟨by decide, fun p hp => ⟨by show 1 ≤ sizeLine; decide, fun D hD => ?_⟩⟩
    have hD0 : H D = none := (Same.new hp).free hD
    refine ⟨_, rfl, n, rfl, by omega, by omega, for_range (lo := 0) (n := (n : Int).toNat) (fun i σ H' => ∃ (D : Addr) (ps : List Addr) (v3 v4 v5 : Option V), σ = [some (.int b), some (.int n), some (.ref D), v3, v4, v5] ∧ H D = none ∧ Same H H' ∧ H' D = some (.lst (ps.map V.ref)) ∧ Tups H' ps (lets b i))
      ⟨D, [p], none, none, none, rfl, hD0, (Same.new hp).trans (Same.new hD), upd_same, .cons (by rw [upd_ne (ne_of_none (o := .tup []) upd_same hD)]; exact upd_same) .nil⟩ ?_ ?_⟩
    · rintro i σ H1 hi ⟨D, ps, v3, v4, v5, rfl, hD, s1, eD, t1⟩
      rw [Int.toNat_natCast] at hi
      have lps : ps.length = b ^ i := by rw [Paired.length t1, lets_len]
      have bi : b ^ i ≤ 256 := small_pow hb (by omega)
      have bi1 : b ^ (i + 1) ≤ 256 := small_pow hb (by omega)
      refine ⟨by decide, fun E hE => ?_⟩
      have hE0 : H E = none := s1.free hE
      have nDE : D ≠ E := ne_of_none eD hE
      refine ⟨_, rfl, D, rfl, ⟨ps.map V.ref, .of (by rw [upd_ne nDE]; exact eD)⟩, for_list (xs := ps.map V.ref) (fun j σ H' => ∃ (qs : List Addr) (v5 : Option V), σ = [some (.int b), some (.int n), some (.ref D), some (.int (0 + (i : Int))), some (.ref E), v5] ∧
          Same H H' ∧ H' D = some (.lst (ps.map V.ref)) ∧ Tups H' ps (lets b i) ∧ H' E = some (.lst (qs.map V.ref)) ∧ Tups H' qs (((lets b i).take j).flatMap fun l => (List.range b).map fun (f : Nat) => l ++ [(f : Int)]))
        ⟨[], v5, rfl, s1.trans (Same.new hE), by rw [upd_ne nDE]; exact eD, t1.keep (Same.new hE).kt, upd_same, .nil⟩ (fun j σ H' _ ⟨_, _, _, _, h, _⟩ => .of h) ?_ ?_⟩
      · rintro j y σ H2 hj ⟨qs, v5, rfl, s2, eD2, t2, eE2, u2⟩
        rw [List.getElem?_map] at hj
        cases ep : ps[j]? with
        | none => rw [ep] at hj; cases hj
        | some p =>
          rw [ep] at hj
          have ey : y = .ref p := (Option.some.inj hj).symm
          subst ey
          obtain ⟨l, el, hl⟩ := t2.get ep
          have jlt : j < ps.length := (List.getElem?_eq_some_iff.mp ep).1
          refine ⟨_, rfl, .inl ⟨rfl, _, .of eE2⟩, _, rfl, b, rfl, by omega, by omega, fun C hC => ?_⟩
          have nEC : E ≠ C := ne_of_none eE2 hC
          have nDC : D ≠ C := ne_of_none eD2 hC
          refine comp_range (fun f σ H' => ∃ (rs : List Addr) (v : Option V), σ = [v, some (.ref p)] ∧ Same H2 H' ∧ H' C = some (.lst (rs.map V.ref)) ∧ Tups H' rs ((List.range f).map fun (f : Nat) => l ++ [(f : Int)]))
            ⟨[], none, rfl, Same.new hC, upd_same, .nil⟩ ?_ ?_
          · rintro f σ H3 hf ⟨rs, v, rfl, s3, eC3, t3⟩
            refine ⟨_, rfl, _, rfl, by show 1 ≤ sizeLine; decide, fun q hq => ?_⟩
            have lrs : rs.length = f := by rw [Paired.length t3]; simp
            have nCq : C ≠ q := ne_of_none eC3 hq
            have ll : l.length = i := lets_mem b i l (List.mem_of_getElem? el)
            have e0 : (0 : Int) + (f : Int) = (f : Int) := by omega
            have hq2 : H2 q = none := s3.free hq
            have szf : (rs.map V.ref).length < sizeLine := by rw [List.length_map, lrs]; exact Nat.lt_of_lt_of_le (show f < 10 by omega) (by decide)
            have s4 : Same H2 (upd H3 q (.tup [.int (0 + (f : Int))])) := s3.trans (Same.new hq)
            have t4 := t3.keep (Same.new (o := .tup [.int (0 + (f : Int))]) hq).kt
            refine ⟨p, q, l.map V.int, [.int (0 + (f : Int))], rfl, rfl, .of (s4 _ _ hl), .of upd_same, by simp, ?_, fun hl0 => ?_, fun hl0 r hr => ?_⟩
            · rw [List.length_map, ll]; exact Nat.le_trans (show i + 1 ≤ 10 by omega) (by decide)
            · have hl1 : l = [] := by cases l with | nil => rfl | cons _ _ => cases hl0
              subst hl1
              have eC4 : (upd H3 q (.tup [.int (0 + (f : Int))])) C = some (.lst (rs.map V.ref)) := by rw [upd_ne nCq]; exact eC3
              refine ⟨rs.map V.ref, eC4, szf, rs ++ [q], _, rfl, ?_, by rw [upd_same, List.map_append]; rfl, ?_⟩
              · exact s4.kbn hC KB.write
              · rw [List.range_succ, List.map_append]
                refine paired_append (t4.keep (KTu.lst eC4)) (.cons (KTu.lst eC4 _ _ ?_) .nil)
                rw [upd_same]
                simp
            · have nCr : C ≠ r := ne_of_none (by rw [upd_ne nCq]; exact eC3) hr
              have eC4 : (upd (upd H3 q (.tup [.int (0 + (f : Int))])) r (.tup (l.map V.int ++ [.int (0 + (f : Int))]))) C = some (.lst (rs.map V.ref)) := by rw [upd_ne nCr, upd_ne nCq]; exact eC3
              refine ⟨rs.map V.ref, eC4, szf, rs ++ [r], _, rfl, ?_, by rw [upd_same, List.map_append]; rfl, ?_⟩
              · exact (s4.trans (Same.new hr)).kbn hC KB.write
              · rw [List.range_succ, List.map_append]
                refine paired_append ((t4.keep (Same.new hr).kt).keep (KTu.lst eC4)) (.cons (KTu.lst eC4 _ _ ?_) .nil)
                rw [upd_same]
                simp
          · rintro σ H3 ⟨rs, v, rfl, s3, eC3, t3⟩
            have lrs : rs.length = b := by rw [Paired.length t3]; simp
            have lqs : qs.length ≤ 1024 := by
              rw [Paired.length u2, flat_len, List.length_take]
              have := Nat.mul_le_mul (show min j (lets b i).length ≤ 256 by rw [lets_len]; omega) hb
              omega
            have eE3 := s3 _ _ eE2
            refine ⟨E, C, qs.map V.ref, rs.map V.ref, rfl, rfl, eE3, eC3, ?_, ?_⟩
            · rw [List.length_map, List.length_map, lrs]; exact Nat.le_trans (show qs.length + b ≤ 2000 by omega) (by decide)
            · have kt := KTu.lst (o := .lst (qs.map V.ref ++ rs.map V.ref)) eE3
              refine ⟨qs ++ rs, _, rfl, (s2.trans s3).kbn hE0 KB.write, ?_, (t2.keep s3.kt).keep kt, ?_, ?_⟩
              · rw [upd_ne nDE]; exact s3 _ _ eD2
              · rw [upd_same, List.map_append]
              · have e1 : (lets b i).take (j + 1) = (lets b i).take j ++ [l] := by rw [List.take_add_one, el]; rfl
                rw [e1, List.flatMap_append]
                refine paired_append ((u2.keep s3.kt).keep kt) ?_
                rw [List.flatMap_singleton]
                have := t3.keep kt
                rwa [show ((b : Nat) : Int).toNat = b from Int.toNat_natCast b] at this
      · rintro σ H2 ⟨qs, v5, rfl, s2, eD2, t2, eE2, u2⟩
        refine ⟨_, rfl, E, qs, _, _, _, rfl, hE0, s2, eE2, ?_⟩
        have e1 : (lets b i).take (ps.map V.ref).length = lets b i := by rw [List.length_map, Paired.length t2]; exact List.take_length ..
        rw [e1] at u2
        exact u2
    · rintro σ H1 ⟨D, ps, v3, v4, v5, rfl, hD, s1, eD, t1⟩
      exact ⟨_, rfl, k D ps H1 hD s1 eD (by rwa [Int.toNat_natCast] at t1)⟩
end
end My
set_option Elab.async false
set_option linter.all false
set_option maxRecDepth 100000
set_option maxHeartbeats 4000000
namespace My
open PySem L2
def abcS : Str := "abcdefghijklmnopqrstuvwxyz"
theorem abcS_len : abcS.length ≤ sizeLine := by
  have : abcS.length = 26 := by decide +kernel
  rw [this]; decide
theorem abc_at {r : Int} (h0 : 0 ≤ r) (h1 : r < 26) : ∃ c, atI abcS.cps.toList r = some c := by
  obtain ⟨n, rfl⟩ : ∃ n : Nat, r = (n : Int) := ⟨r.toNat, by omega⟩
  have : abcS.cps.toList.length = 26 := by decide +kernel
  exact ⟨_, atI_nat (List.getElem?_eq_getElem (by omega))⟩
def qxzS : Str := "qxz"
theorem qxzS_len : qxzS.length ≤ sizeLine := by
  have : qxzS.length = 3 := by decide +kernel
  rw [this]; decide
theorem qxz_at (x : Int) : ∃ c, atI qxzS.cps.toList (x % 3) = some c := by
  have h0 := Int.emod_nonneg x (show (3 : Int) ≠ 0 by decide)
  have h1 := Int.emod_lt_of_pos x (show (0 : Int) < 3 by decide)
  obtain ⟨n, hn⟩ := toN h0
  have : qxzS.cps.toList.length = 3 := by decide +kernel
  rw [hn]
  exact ⟨_, atI_nat (List.getElem?_eq_getElem (by omega))⟩
theorem mul_le {z : Str} {n : Int} (h : n < 2) : (Txt.mul z n).length ≤ z.length := by
  unfold Txt.mul
  by_cases h1 : n < 1
  · rw [if_pos h1]; exact Nat.zero_le _
  · rw [if_neg h1, if_pos (by have : n = 1 := by omega
                              rw [this]; rfl)]
    exact Nat.le_refl _
theorem app_len (x y : Str) : (x ++ y).length = x.length + y.length := Array.size_append ..
def spNamesB : Sp := fun vs H Q _ => ∃ (c m : Nat), vs = [.int c, .int m] ∧ m ≤ 6 ∧
  ∀ (N : Addr) (ss : List Str) (H' : Hp), Same H H' → H' N = some (.lst (ss.map V.str)) → ss.length = m → Q (.ref N) H'
section
variable {P : Program} {w : World} {K : PySem.W.Frag} {mg : Str → Option Value} {base : Heap}
theorem sc_l_names : FnScope ["_law_cell", "_law_many", "_law_letters_here", "_law_size", "_law_at", "_law_fill", "_law_found", "_law_k", "_law_name"] ["_law_cell", "_law_many"] (defScope s_l_names) := ⟨rfl, rfl, rfl, by decide +kernel, rfl, by decide +kernel, by decide +kernel⟩
theorem ok_l_names {a : Adr} (T : Txt K mg a) : FnOk P w K mg base CX0 1 a.f_l_names a.fd_l_names ["_law_cell", "_law_many"] spNamesB := by
  refine T.F_l_names.ok sc_l_names (fun vs H Q E h => ?_) (fun cdv A outer s H vs Q E hr h => ?_)
  · obtain ⟨c, m, rfl, _⟩ := h
    rfl
  · obtain ⟨c, m, rfl, hm, k⟩ := h
    refine ⟨_, (pss_cons (ps_set (i := 2) sc_l_names.nd rfl (Or.inl rfl) pe_str)
    (pss_cons (ps_set (i := 3) sc_l_names.nd rfl (Or.inl rfl) (pe_op op_modP (pv 0) pe_int))
    (pss_cons (ps_set (i := 4) sc_l_names.nd rfl (Or.inl rfl) (pe_op op_modP (pe_op op_fdivB (pv 0) pe_int) (pe_op op_add (pv 3) pe_int)))
    (pss_cons (ps_set (i := 5) sc_l_names.nd rfl (Or.inl rfl) (pe_op op_mulS (pe_ix ix_str pe_str (pe_op op_modP (pe_op op_fdivB (pv 0) pe_int) pe_int) (fun _ _ => rfl)) (pv 3)))
    (pss_cons (ps_set (i := 6) sc_l_names.nd rfl (Or.inl rfl) (pe_lst pa_nil))
    (pss_cons (ps_for PassesOwn.never rfl (pi_range1 rfl T.z_range (pa_cons (pv 1) pa_nil)) (pg_name (i := 7) sc_l_names.nd rfl (Or.inl rfl))
      (pss_cons (ps_set (i := 8) sc_l_names.nd rfl (Or.inl rfl) (pe_op op_add_str (pe_op op_add_str (pe_slice sl_str (pv 5) po_none (po_some (pv 4))) (pe_ix ix_str (pv 2) (pe_op op_modP (pe_op op_add (pe_op op_fdivB (pv 0) pe_int) (pe_op op_mul pe_int (pv 7))) pe_int) (fun _ _ => rfl))) (pe_slice sl_str (pv 5) (po_some (pv 4)) po_none)))
      (pss_cons (ps_if (pt_cmpR op_eq (pe_op op_modP (pe_op op_add (pe_op op_fdivB (pv 0) pe_int) (pv 7)) pe_int) pe_int (nomark _))
        (pss_one (ps_set (i := 8) sc_l_names.nd rfl (Or.inl rfl) (pe_op op_add_str (pv 8) (pe_ix ix_str pe_str (pe_op op_modP (pe_op op_fdivB (pv 0) pe_int) pe_int) (fun _ _ => rfl)))))
        pss_nil)
      (pss_one (ps_expr (pe_bm PySem.F.plainAttrs_list PySem.F.slot_list_append PySem.F.type_list_append mt_append (pv 6) (pa_cons (pv 8) pa_nil)))))))
    (pss_one (ps_ret (pe_callB (call_sortSK K) (by rfl) T.z_sorted bt_sorted (pa_cons (pv 6) pa_nil)))))))))), ?_⟩
    have big : (10000 : Nat) ≤ sizeLine := by decide
    have one : ∀ c, Str.length (⟨#[c]⟩ : Str) = 1 := fun _ => rfl
    dsimp only [tSeq, tAsg, tC, gName]
    refine ⟨_, rfl, _, _, rfl, rfl, cpos (by decide), ?_⟩
    have z0 := Int.emod_nonneg (c : Int) (show (2 : Int) ≠ 0 by decide)
    have z1 := Int.emod_lt_of_pos (c : Int) (show (0 : Int) < 2 by decide)
    dsimp only [gName]
    generalize (c : Int) % 2 = sz at z0 z1 ⊢
    refine ⟨_, rfl, _, _, rfl, rfl, ⟨by decide, by decide⟩, _, rfl, _, _, rfl, rfl, _, _, rfl, rfl, cpos (by omega), ?_⟩
    dsimp only [gName]
    generalize (c : Int) / 2 % (sz + 1) = ia
    obtain ⟨c1, hc1⟩ := qxz_at ((c : Int) / 4)
    refine ⟨_, rfl, _, _, rfl, rfl, ⟨by decide, by decide⟩, _, _, rfl, rfl, cpos (by decide), qxzS, _, c1, rfl, rfl, qxzS_len, hc1, _, rfl, _, sz, rfl, rfl, z0, by omega, by rw [one]; decide, ?_⟩
    have fl : (Txt.mul (⟨#[c1]⟩ : Str) sz).length ≤ 1 := mul_le z1
    dsimp only [gName]
    generalize Txt.mul (⟨#[c1]⟩ : Str) sz = fi at fl ⊢
    refine ⟨by decide, fun N hN => ?_⟩
    have sN := Same.new (o := .lst []) hN
    dsimp only [gName]
    refine ⟨_, rfl, _, rfl, by omega, by omega, for_range (n := (m : Int).toNat) (fun i σ H' => ∃ (ss : List Str) (v7 v8 : Option V), σ = [some (.int (c : Nat)), some (.int (m : Nat)), some (.str abcS), some (.int sz), some (.int ia), some (.str fi), some (.ref N), v7, v8] ∧ Same H H' ∧ H' N = some (.lst (ss.map V.str)) ∧ ss.length = i)
      ⟨[], none, none, rfl, sN, upd_same, rfl⟩ ?_ ?_⟩
    · rintro i σ H1 hi ⟨ss, v7, v8, rfl, s1, n1, ls⟩
      rw [Int.toNat_natCast] at hi
      obtain ⟨cc, hcc⟩ := abc_at (r := ((c : Int) / 12 + 5 * (0 + (i : Int))) % 26) (Int.emod_nonneg _ (by decide)) (Int.emod_lt_of_pos _ (by decide))
      have sl1 := Txt.slice_le fi none (some ia)
      have sl2 := Txt.slice_le fi (some ia) none
      refine ⟨_, rfl, _, rfl, _, rfl, fi, rfl, by omega, _, rfl, _, rfl, _, _, rfl, rfl, ⟨by decide, by decide⟩, _, rfl, _, _, rfl, rfl, .inl (by decide), _, _, rfl, rfl, _, _, rfl, rfl, cpos (by decide), abcS, _, cc, rfl, rfl, abcS_len, hcc, _, _, rfl, rfl, by rw [one]; omega, _, rfl, _, rfl, _, rfl, fi, rfl, by omega, _, _, rfl, rfl, by rw [app_len, one]; omega, ?_⟩
      have nl : (Txt.slice fi none (some ia) ++ ⟨#[cc]⟩ ++ Txt.slice fi (some ia) none).length ≤ 3 := by rw [app_len, app_len, one]; omega
      dsimp only [gName]
      generalize Txt.slice fi none (some ia) ++ ⟨#[cc]⟩ ++ Txt.slice fi (some ia) none = z at nl ⊢
      refine seq_rest (t := tIfS _ _ _) (fun σ H' => ∃ (z : Str), σ = [some (.int (c : Nat)), some (.int (m : Nat)), some (.str abcS), some (.int sz), some (.int ia), some (.str fi), some (.ref N), some (.int (0 + (i : Int))), some (.str z)] ∧ H' = H1) ?_ (fun rest => ?_)
      · rintro σ H2 ⟨z, rfl, rfl⟩
        refine ⟨_, rfl, .inl ⟨rfl, _, .of n1⟩, _, rfl, N, _, _, rfl, rfl, n1, ?_, ss ++ [z], _, _, rfl, s1.kbn hN KB.write, ?_, ?_⟩
        · rw [List.length_map]; omega
        · rw [upd_same, List.map_append]; rfl
        · rw [List.length_append, ls]; rfl
      · refine ⟨_, rfl, _, _, rfl, rfl, ⟨by decide, by decide⟩, _, rfl, _, _, rfl, rfl, _, _, rfl, rfl, cpos (by decide), rfl, _, rfl, ?_⟩
        refine ite2 (fun _ => ?_) (fun _ => rest _ _ ⟨_, rfl, rfl⟩)
        obtain ⟨c2, hc2⟩ := qxz_at ((c : Int) / 936)
        exact ⟨_, rfl, _, rfl, _, _, rfl, rfl, ⟨by decide, by decide⟩, _, _, rfl, rfl, cpos (by decide), qxzS, _, c2, rfl, rfl, qxzS_len, hc2, _, _, rfl, rfl, by rw [one]; omega, rest _ _ ⟨_, rfl, rfl⟩⟩
    · rintro σ H1 ⟨ss, v7, v8, rfl, s1, n1, ls⟩
      rw [Int.toNat_natCast] at ls
      refine ⟨_, rfl, N, ss, rfl, .of n1, by omega, fun p zs hp perm _ => ?_⟩
      exact k p zs _ (s1.trans (Same.new hp)) upd_same (by rw [perm.length_eq, ls])
end
end My
set_option Elab.async false
set_option linter.all false
set_option maxRecDepth 100000
set_option maxHeartbeats 4000000
namespace My
open PySem L2
theorem rep_row (i : Nat) : ∀ B : Nat, (List.replicate B [V.int (0 + (i : Int))]).flatten = (castI (List.replicate B i)).map V.int
  | 0 => rfl
  | B + 1 => by
    rw [List.replicate_succ, List.flatten_cons, rep_row i B, List.replicate_succ, show (0 : Int) + (i : Int) = (i : Int) by omega]
    rfl
theorem or_any {T : (Bool → Hp → Prop) → Prop} {Qf : Bool → Hp → Prop} (S : Hp → Prop) (h : ∀ Qc : Bool → Hp → Prop, (∀ c H', S H' → Qc c H') → T Qc) (x : ∀ c H', S H' → Qf c H') : T Qf := h Qf x
theorem set_all {n i y : Nat} {xs : List Nat} (h : ∀ x ∈ xs, x < n) (hy : y < n) : ∀ x ∈ xs.set i y, x < n := fun x hx => (List.mem_or_eq_of_mem_set hx).elim (h x) fun e => e ▸ hy
def PairAt (H : Hp) (pa ya va : Addr) (ps : List Addr) (bs : List Bool) (mv : List (List Nat)) : Prop := H pa = some (.tup [.ref ya, .ref va]) ∧ H ya = some (.tup (bs.map V.bl)) ∧ H va = some (.tup (ps.map V.ref)) ∧ Tups H ps (mv.map castI)
def spChain : Sp := fun vs H Q _ => ∃ (d : Addr) (B most : Nat), vs = [.ref d, .int B, .int most] ∧ Deck2 H d ∧ 0 < B ∧ B ≤ 100 ∧ 8 ≤ most ∧ most ≤ 100 ∧
  ∀ (pa ya va : Addr) (ps : List Addr) (bs : List Bool) (mv : List (List Nat)) (H' : Hp), KB d H H' → Deck2 H' d → PairAt H' pa ya va ps bs mv → Moves bs.length B mv → 0 < bs.length → bs.length ≤ most → Q (.ref pa) H'
section
variable {P : Program} {w : World} {K : PySem.W.Frag} {mg : Str → Option Value} {base : Heap}
theorem sc_l_chain : FnScope ["_law_deck_here", "_law_letters_here", "_law_most", "_law_many", "_law_by", "_law_moves", "_law_yes_here", "_law_room", "_law_row"] ["_law_deck_here", "_law_letters_here", "_law_most"] (defScope s_l_chain) := ⟨rfl, rfl, rfl, by decide +kernel, rfl, by decide +kernel, by decide +kernel⟩
theorem ok_l_chain {a : Adr} (T : Txt K mg a) : FnOk P w K mg base CX0 2 a.f_l_chain a.fd_l_chain ["_law_deck_here", "_law_letters_here", "_law_most"] spChain := by
  have G_l_next : FnOk P w K mg base CX0 1 a.f_l_next a.fd_l_next ["_law_deck_here", "_law_many"] spNext2 := ok_l_next T
  refine T.F_l_chain.ok sc_l_chain (fun vs H Q E h => ?_) (fun cdv A outer s H vs Q E hr h => ?_)
  · obtain ⟨d, B, most, rfl, _⟩ := h
    rfl
  · obtain ⟨d, B, most, rfl, hd, hB0, hB, m8, m100, k⟩ := h
    have hr_l_next : Room 1 _ := hr
    refine ⟨_, (pss_cons (ps_set (i := 3) sc_l_chain.nd rfl (Or.inl rfl) (pe_op op_add pe_int (pe_call G_l_next hr_l_next rfl T.m_l_next T.k_l_next T.b_l_next .nil pass0 (pa_cons (pv 0) (pa_cons (pe_op op_sub (pv 2) pe_int) pa_nil)))))
    (pss_cons (ps_set (i := 4) sc_l_chain.nd rfl (Or.inl rfl) (pe_call G_l_next hr_l_next rfl T.m_l_next T.k_l_next T.b_l_next .nil pass0 (pa_cons (pv 0) (pa_cons (pv 1) pa_nil))))
    (pss_cons (ps_set (i := 5) sc_l_chain.nd rfl (Or.inl rfl) (pe_lst pa_nil))
    (pss_cons (ps_set (i := 6) sc_l_chain.nd rfl (Or.inl rfl) (pe_lst pa_nil))
    (pss_cons (ps_for PassesOwn.never rfl (pi_range1 rfl T.z_range (pa_cons (pv 3) pa_nil)) (pg_name (i := 7) sc_l_chain.nd rfl (Or.inl rfl))
      (pss_cons (ps_set (i := 8) sc_l_chain.nd rfl (Or.inl rfl) (pe_op op_rep (pe_lst (pa_cons (pv 7) pa_nil)) (pv 1)))
      (pss_cons (ps_if (pt_cmpR op_gt (pv 4) pe_int (nomark _))
        (pss_one (ps_asg (pe_callB (call_min2 rfl) (by rfl) T.z_min bt_min (pa_cons (pe_op op_add (pv 7) pe_int) (pa_cons (pe_op op_sub (pv 3) pe_int) pa_nil))) (pg_sub (pv 8) (pv 4) set_list)))
        pss_nil)
      (pss_cons (ps_if (PW.pt (pw_and (pt_cmpR op_gt (pv 4) pe_int (nomark _)) (pw_and (pt_cmpR op_eq (pe_op op_add (pv 7) pe_int) (pv 3) (nomark _)) (pw_and1 (pt_cmpR op_eq (pe_call G_l_next hr_l_next rfl T.m_l_next T.k_l_next T.b_l_next .nil pass0 (pa_cons (pv 0) (pa_cons pe_int pa_nil))) pe_int (nomark _))))))
        (pss_one (ps_asg pe_int (pg_sub (pv 8) (pv 4) set_list)))
        pss_nil)
      (pss_cons (ps_expr (pe_bm PySem.F.plainAttrs_list PySem.F.slot_list_append PySem.F.type_list_append mt_append (pv 5) (pa_cons (pe_callTy (call_tupleK K) (by rfl) T.z_tuple bt_tuple (pa_cons (pv 8) pa_nil)) pa_nil)))
      (pss_one (ps_expr (pe_bm PySem.F.plainAttrs_list PySem.F.slot_list_append PySem.F.type_list_append mt_append (pv 6) (pa_cons (pe_or (pe_cmpR op_eq (pe_op op_add (pv 7) pe_int) (pv 3) (nomark _)) (pe_one (pe_cmpR op_eq (pe_call G_l_next hr_l_next rfl T.m_l_next T.k_l_next T.b_l_next .nil pass0 (pa_cons (pv 0) (pa_cons pe_int pa_nil))) pe_int (nomark _)))) pa_nil)))))))))
    (pss_one (ps_ret (pe_tup (pa_cons (pe_callTy (call_tupleK K) (by rfl) T.z_tuple bt_tuple (pa_cons (pv 6) pa_nil)) (pa_cons (pe_callTy (call_tupleK K) (by rfl) T.z_tuple bt_tuple (pa_cons (pv 5) pa_nil)) pa_nil)))))))))), ?_⟩
    have big : (10000 : Nat) ≤ sizeLine := by decide
    refine ⟨_, rfl, _, rfl, _, _, rfl, rfl, d, (most : Int) - 7, rfl, hd, by omega, fun r H1 r0 r1 k1 d1 => ⟨_, _, rfl, rfl, ?_⟩⟩
    obtain ⟨r', rfl⟩ := toN r0
    have en : (8 : Int) + (r' : Int) = ((8 + r' : Nat) : Int) := by omega
    dsimp only [gName]
    rw [en]
    generalize hN : 8 + r' = n
    have n0 : 8 ≤ n := by omega
    have n1 : n ≤ most := by omega
    refine ⟨_, rfl, _, rfl, d, (B : Int), rfl, d1, by omega, fun q H2 q0 q1 k2 d2 => ?_⟩
    obtain ⟨b, rfl⟩ := toN q0
    have hbB : b < B := by omega
    dsimp only [gName]
    refine ⟨by decide, fun M hM => ?_⟩
    have sM := Same.new (o := .lst []) hM
    dsimp only [gName]
    refine ⟨by decide, fun Y hY => ?_⟩
    have sY := Same.new (o := .lst []) hY
    have d3 := (d2.same sM).same sY
    have nM := d2.nd hM
    have nY := (d2.same sM).nd hY
    have nMY : M ≠ Y := ne_of_none (o := .lst []) upd_same hY
    have k3 : KB d H _ := ((k1.trans k2).trans sM.kb).trans sY.kb
    have m3 := sY _ _ (show (upd H2 M (.lst [])) M = some (.lst []) from upd_same)
    have hM0 : H M = none := d2.lo (k1.trans k2) hM
    have hY0 : H Y = none := (d2.same sM).lo ((k1.trans k2).trans sM.kb) hY
    have y3 : (upd (upd H2 M (.lst [])) Y (.lst [])) Y = some (.lst []) := upd_same
    generalize upd (upd H2 M (.lst [])) Y (.lst []) = H3 at d3 k3 m3 y3 ⊢
    dsimp only [gName]
    refine ⟨_, rfl, _, rfl, by omega, by omega, for_range (n := (n : Int).toNat) (fun i σ H' => ∃ (ps : List Addr) (mv : List (List Nat)) (bs : List Bool) (v7 v8 : Option V), σ = [some (.ref d), some (.int (B : Nat)), some (.int (most : Nat)), some (.int (n : Nat)), some (.int (b : Nat)), some (.ref M), some (.ref Y), v7, v8] ∧ KB d H H' ∧ Deck2 H' d ∧ H' M = some (.lst (ps.map V.ref)) ∧ H' Y = some (.lst (bs.map V.bl)) ∧ Tups H' ps (mv.map castI) ∧ bs.length = i ∧ mv.length = i ∧ ∀ l ∈ mv, l.length = B ∧ ∀ x ∈ l, x < n)
      ⟨[], [], [], none, none, rfl, k3, d3, m3, y3, .nil, rfl, rfl, fun l hl => (by cases hl)⟩ ?_ ?_⟩
    · rintro i σ H4 hi ⟨ps, mv, bs, v7, v8, rfl, k4, d4, m4, y4, tp4, lb, lm, ok⟩
      rw [Int.toNat_natCast] at hi
      have lps : ps.length = i := by rw [Paired.length tp4, List.length_map, lm]
      refine ⟨_, rfl, by show 1 ≤ sizeLine; decide, fun Z hZ => ?_⟩
      have sZ := Same.new (o := .lst [.int (0 + (i : Int))]) hZ
      refine ⟨_, rfl, Z, (B : Int), [.int (0 + (i : Int))], rfl, rfl, upd_same, by omega, by omega, by rw [Int.toNat_natCast]; show 1 * B ≤ _; omega, fun Rw hRw => ?_⟩
      rw [Int.toNat_natCast, rep_row]
      have sR := Same.new (o := .lst ((castI (List.replicate B i)).map V.int)) hRw
      have nR : Rw ≠ d := (d4.same sZ).nd hRw
      have hR4 : H4 Rw = none := sZ.free hRw
      have k5 : KB d H4 _ := (sZ.trans sR).kb
      have d5 := d4.same (sZ.trans sR)
      have r5 : (upd (upd H4 Z (.lst [.int (0 + (i : Int))])) Rw (.lst ((castI (List.replicate B i)).map V.int))) Rw = _ := upd_same
      generalize upd (upd H4 Z (.lst [.int (0 + (i : Int))])) Rw (.lst ((castI (List.replicate B i)).map V.int)) = H5 at k5 d5 r5 ⊢
      dsimp only [gName]
      refine seq_rest (t := tIfS _ _ _) (fun σ H' => ∃ (rw' : List Nat), σ = [some (.ref d), some (.int (B : Nat)), some (.int (most : Nat)), some (.int (n : Nat)), some (.int (b : Nat)), some (.ref M), some (.ref Y), some (.int (0 + (i : Int))), some (.ref Rw)] ∧ H' Rw = some (.lst ((castI rw').map V.int)) ∧ rw'.length = B ∧ (∀ x ∈ rw', x < n) ∧ KB d H4 H' ∧ Deck2 H' d) ?_ (fun rest => ?_)
      · rintro σ H6 ⟨rw6, rfl, r6, l6, h6, k6, d6⟩
        refine seq_rest (t := tIfS _ _ _) (fun σ H' => ∃ (rw' : List Nat), σ = [some (.ref d), some (.int (B : Nat)), some (.int (most : Nat)), some (.int (n : Nat)), some (.int (b : Nat)), some (.ref M), some (.ref Y), some (.int (0 + (i : Int))), some (.ref Rw)] ∧ H' Rw = some (.lst ((castI rw').map V.int)) ∧ rw'.length = B ∧ (∀ x ∈ rw', x < n) ∧ KB d H4 H' ∧ Deck2 H' d) ?_ (fun rest => ?_)
        · rintro σ H7 ⟨rw7, rfl, r7, l7, h7, k7, d7⟩
          have m7 := k7 _ _ m4 nM
          have t7 := d4.ktu k7
          refine ⟨_, rfl, .inl ⟨rfl, _, .of m7⟩, _, rfl, Rw, _, rfl, .inl ⟨.of r7, fun D hD => ?_⟩⟩
          have sD := Same.new (o := .tup ((castI rw7).map V.int)) hD
          have m8' := sD _ _ m7
          have ktM : KTu (upd H7 D (.tup ((castI rw7).map V.int))) (upd (upd H7 D (.tup ((castI rw7).map V.int))) M (.lst (ps.map V.ref ++ [.ref D]))) := KTu.lst m8'
          have k8 : KB d H (upd (upd H7 D (.tup ((castI rw7).map V.int))) M (.lst (ps.map V.ref ++ [.ref D]))) := KB.updN ((k4.trans k7).trans sD.kb) hM0
          have d8 : Deck2 (upd (upd H7 D (.tup ((castI rw7).map V.int))) M (.lst (ps.map V.ref ++ [.ref D]))) d := (d7.same sD).upd nM
          have y8 : (upd (upd H7 D (.tup ((castI rw7).map V.int))) M (.lst (ps.map V.ref ++ [.ref D]))) Y = some (.lst (bs.map V.bl)) := by rw [upd_ne nMY.symm]; exact sD _ _ (k7 _ _ y4 nY)
          have mm8 : (upd (upd H7 D (.tup ((castI rw7).map V.int))) M (.lst (ps.map V.ref ++ [.ref D]))) M = some (.lst ((ps ++ [D]).map V.ref)) := by rw [upd_same, List.map_append]; rfl
          have tp8 : Tups (upd (upd H7 D (.tup ((castI rw7).map V.int))) M (.lst (ps.map V.ref ++ [.ref D]))) (ps ++ [D]) ((mv ++ [rw7]).map castI) := by
            rw [List.map_append]
            exact paired_append (((tp4.keep t7).keep sD.kt).keep ktM) (.cons (ktM _ _ upd_same) .nil)
          refine ⟨M, _, _, rfl, rfl, m8', by rw [List.length_map, lps]; omega, ?_⟩
          generalize upd (upd H7 D (.tup ((castI rw7).map V.int))) M (.lst (ps.map V.ref ++ [.ref D])) = H8 at k8 d8 y8 mm8 tp8 ⊢
          have ok8 : ∀ l ∈ mv ++ [rw7], l.length = B ∧ ∀ x ∈ l, x < n := fun l hl => by
            rcases List.mem_append.mp hl with z | z
            · exact ok l z
            · rw [List.mem_singleton.mp z]; exact ⟨l7, h7⟩
          refine ⟨_, rfl, .inl ⟨rfl, _, .of y8⟩, _, rfl, _, _, rfl, rfl, _, rfl, rfl, _, rfl, ?_⟩
          refine ite2 (fun _ => ?_) (fun _ => ?_)
          · refine ⟨Y, _, _, rfl, rfl, y8, by rw [List.length_map]; omega, ps ++ [D], mv ++ [rw7], bs ++ [true], _, _, rfl, KB.updN k8 hY0, d8.upd nY, by rw [upd_ne nMY]; exact mm8, by rw [upd_same, List.map_append]; rfl, tp8.keep (KTu.lst y8), by rw [List.length_append, lb]; rfl, by rw [List.length_append, lm]; rfl, ok8⟩
          · refine ⟨_, rfl, d, 12, rfl, d8, by decide, fun u H9 u0 u1 k9 d9 => ⟨rfl, ?_⟩⟩
            have y9 := k9 _ _ y8 nY
            refine ⟨Y, _, _, rfl, rfl, y9, by rw [List.length_map]; omega, ps ++ [D], mv ++ [rw7], bs ++ [decide (V.int u = V.int 0)], _, _, rfl, KB.updN (k8.trans k9) hY0, d9.upd nY, by rw [upd_ne nMY]; exact k9 _ _ mm8 nM, by rw [upd_same, List.map_append]; rfl, (tp8.keep (d8.ktu k9)).keep (KTu.lst y9), by rw [List.length_append, lb]; rfl, by rw [List.length_append, lm]; rfl, ok8⟩
        · dsimp only [tIfS]
          refine or_any (fun H' => KB d H6 H' ∧ Deck2 H' d) (fun Qc hq => ?_) (fun c H7 ⟨k7, d7⟩ => ?_)
          · refine ⟨_, rfl, _, _, rfl, rfl, _, rfl, ?_⟩
            refine ite2 (fun _ => ?_) (fun _ => hq _ _ ⟨.refl _ _, d6⟩)
            refine ⟨_, rfl, _, _, rfl, rfl, _, rfl, rfl, _, rfl, ?_⟩
            refine ite2 (fun _ => ?_) (fun _ => hq _ _ ⟨.refl _ _, d6⟩)
            exact ⟨_, rfl, d, 2, rfl, d6, by decide, fun u H7 u0 u1 k7 d7 => ⟨rfl, _, rfl, hq _ _ ⟨k7, d7⟩⟩⟩
          · have r7 := k7 _ _ r6 nR
            refine ite2 (fun _ => ?_) (fun _ => rest _ _ ⟨rw6, rfl, r7, l6, h6, k6.trans k7, d7⟩)
            refine ⟨_, rfl, _, rfl, Rw, _, _, b, rfl, rfl, r7, ixN_at (by rw [List.length_map, castI_len]; omega), rest _ _ ⟨rw6.set b 0, rfl, ?_, by rw [List.length_set, l6], set_all h6 (by omega), KB.updN (k6.trans k7) hR4, d7.upd nR⟩⟩
            rw [upd_same, ← castI_put]
            rfl
      · refine ⟨_, rfl, _, _, rfl, rfl, _, rfl, ?_⟩
        refine ite2 (fun _ => ?_) (fun _ => rest _ _ ⟨List.replicate B i, rfl, r5, List.length_replicate, fun x hx => by rw [List.eq_of_mem_replicate hx]; exact hi, k5, d5⟩)
        refine ⟨_, rfl, _, _, rfl, rfl, _, rfl, _, _, rfl, rfl, _, _, rfl, ?_⟩
        obtain ⟨y, ey, hy⟩ : ∃ y : Nat, (if (n : Int) - 1 < 0 + (i : Int) + 1 then (n : Int) - 1 else 0 + (i : Int) + 1) = (y : Int) ∧ y < n := by
          split
          · exact ⟨n - 1, by omega, by omega⟩
          · exact ⟨i + 1, by omega, by omega⟩
        rw [ey]
        refine ⟨_, rfl, _, rfl, Rw, _, _, b, rfl, rfl, r5, ixN_at (by rw [List.length_map, castI_len, List.length_replicate]; omega), rest _ _ ⟨(List.replicate B i).set b y, rfl, ?_, by rw [List.length_set, List.length_replicate], set_all (fun x hx => by rw [List.eq_of_mem_replicate hx]; exact hi) hy, KB.updN k5 hR4, d5.upd nR⟩⟩
        rw [upd_same, ← castI_put]
    · rintro σ H4 ⟨ps, mv, bs, v7, v8, rfl, k4, d4, m4, y4, tp4, lb, lm, ok⟩
      rw [Int.toNat_natCast] at lb lm
      refine ⟨_, rfl, Y, _, rfl, .inl ⟨.of y4, fun ya hya => ?_⟩⟩
      have sya := Same.new (o := .tup (bs.map V.bl)) hya
      refine ⟨_, rfl, M, _, rfl, .inl ⟨.of (sya _ _ m4), fun va hva => ?_⟩⟩
      have sva := Same.new (o := .tup (ps.map V.ref)) hva
      refine ⟨by show 2 ≤ sizeLine; decide, fun pa hpa => ?_⟩
      have spa := Same.new (o := .tup [.ref ya, .ref va]) hpa
      have sA := (sya.trans sva).trans spa
      exact k pa ya va ps bs mv _ (k4.trans sA.kb) (d4.same sA) ⟨upd_same, spa _ _ (sva _ _ upd_same), spa _ _ upd_same, tp4.keep sA.kt⟩ (by rw [lb]; exact ⟨lm, ok⟩) (by omega) (by omega)
end
def spMachB : Sp := fun vs H Q _ => ∃ (d : Addr) (B few most : Nat), vs = [.ref d, .int B, .int few, .int most] ∧ Deck2 H d ∧ 0 < B ∧ B ≤ 100 ∧ 0 < few ∧ few ≤ most ∧ 8 ≤ most ∧ most ≤ 100 ∧
  ∀ (pa ya va : Addr) (ps : List Addr) (bs : List Bool) (mv : List (List Nat)) (H' : Hp), KB d H H' → Deck2 H' d → PairAt H' pa ya va ps bs mv → Moves bs.length B mv → 0 < bs.length → bs.length ≤ most → Q (.ref pa) H'
section
variable {P : Program} {w : World} {K : PySem.W.Frag} {mg : Str → Option Value} {base : Heap}
theorem sc_l_machine : FnScope ["_law_deck_here", "_law_letters_here", "_law_few", "_law_most", "_law_moves"] ["_law_deck_here", "_law_letters_here", "_law_few", "_law_most"] (defScope s_l_machine) := ⟨rfl, rfl, rfl, by decide +kernel, rfl, by decide +kernel, by decide +kernel⟩
theorem ok_l_machine {a : Adr} (T : Txt K mg a) : FnOk P w K mg base CX0 3 a.f_l_machine a.fd_l_machine ["_law_deck_here", "_law_letters_here", "_law_few", "_law_most"] spMachB := by
  have G_l_next : FnOk P w K mg base CX0 1 a.f_l_next a.fd_l_next ["_law_deck_here", "_law_many"] spNext2 := ok_l_next T
  have G_l_rooms : FnOk P w K mg base CX0 2 a.f_l_rooms a.fd_l_rooms ["_law_deck_here", "_law_letters_here", "_law_many"] spRooms := ok_l_rooms T
  have G_l_yes : FnOk P w K mg base CX0 2 a.f_l_yes a.fd_l_yes ["_law_deck_here", "_law_moves"] spYes := ok_l_yes T
  have G_l_chain : FnOk P w K mg base CX0 2 a.f_l_chain a.fd_l_chain ["_law_deck_here", "_law_letters_here", "_law_most"] spChain := ok_l_chain T
  refine T.F_l_machine.ok sc_l_machine (fun vs H Q E h => ?_) (fun cdv A outer s H vs Q E hr h => ?_)
  · obtain ⟨d, B, few, most, rfl, _⟩ := h
    rfl
  · obtain ⟨d, B, few, most, rfl, hd, hB0, hB, f0, f1, m8, m100, k⟩ := h
    have hr_l_next : Room 1 _ := hr.mono (by decide)
    have hr_l_rooms : Room 2 _ := hr
    have hr_l_yes : Room 2 _ := hr
    have hr_l_chain : Room 2 _ := hr
    refine ⟨_, (pss_cons (ps_if (pt_cmpR op_eq (pe_call G_l_next hr_l_next rfl T.m_l_next T.k_l_next T.b_l_next .nil pass0 (pa_cons (pv 0) (pa_cons pe_int pa_nil))) pe_int (nomark _))
      (pss_one (ps_ret (pe_call G_l_chain hr_l_chain rfl T.m_l_chain T.k_l_chain T.b_l_chain .nil pass0 (pa_cons (pv 0) (pa_cons (pv 1) (pa_cons (pv 3) pa_nil))))))
      pss_nil)
    (pss_cons (ps_set (i := 4) sc_l_machine.nd rfl (Or.inl rfl) (pe_call G_l_rooms hr_l_rooms rfl T.m_l_rooms T.k_l_rooms T.b_l_rooms .nil pass0 (pa_cons (pv 0) (pa_cons (pv 1) (pa_cons (pe_op op_add pe_int (pe_call G_l_next hr_l_next rfl T.m_l_next T.k_l_next T.b_l_next .nil pass0 (pa_cons (pv 0) (pa_cons (pv 2) pa_nil)))) pa_nil)))))
    (pss_one (ps_ret (pe_tup (pa_cons (pe_call G_l_yes hr_l_yes rfl T.m_l_yes T.k_l_yes T.b_l_yes .nil pass0 (pa_cons (pv 0) (pa_cons (pv 4) pa_nil))) (pa_cons (pv 4) pa_nil))))))), ?_⟩
    refine ⟨_, rfl, d, 4, rfl, hd, by decide, fun t H1 t0 t1 k1 d1 => ⟨rfl, _, rfl, ?_⟩⟩
    refine ite2 (fun _ => ?_) (fun _ => ?_)
    · exact ⟨_, rfl, _, rfl, _, rfl, d, B, most, rfl, d1, hB0, hB, m8, m100, fun pa ya va ps bs mv H' k2 d2 p2 mvs h0 h1 => k pa ya va ps bs mv H' (k1.trans k2) d2 p2 mvs h0 h1⟩
    · refine ⟨_, rfl, _, rfl, _, rfl, _, rfl, d, (few : Int), rfl, d1, by omega, fun r H2 r0 r1 k2 d2 => ⟨_, _, rfl, rfl, ?_⟩⟩
      obtain ⟨r', rfl⟩ := toN r0
      have en : (1 : Int) + (r' : Int) = ((1 + r' : Nat) : Int) := by omega
      refine ⟨d, B, 1 + r', by rw [← en]; rfl, d2, by omega, by omega, hB, fun va ps mv H3 k3 d3 e3 tp3 mvs => ?_⟩
      dsimp only [gName]
      refine ⟨_, rfl, _, rfl, d, va, ps, 1 + r', B, mv, rfl, d3, e3, tp3, mvs, hB0, by omega, fun ya bs H4 k4 d4 e4 lb => ?_⟩
      have t4 := d3.ktu k4
      refine ⟨_, rfl, by show 2 ≤ sizeLine; decide, fun pa hpa => ?_⟩
      have sp := Same.new (o := .tup [.ref ya, .ref va]) hpa
      exact k pa ya va ps bs mv _ ((((k1.trans k2).trans k3).trans k4).trans sp.kb) (d4.same sp) ⟨upd_same, sp _ _ e4, sp _ _ (t4 _ _ e3), (tp3.keep t4).keep sp.kt⟩ (by rw [lb]; exact mvs) (by omega) (by omega)
end
end My
set_option Elab.async false
set_option linter.all false
set_option maxRecDepth 100000
set_option maxHeartbeats 4000000
namespace My
open PySem L2
theorem prod_len (n1 n2 : Nat) : ((List.range n1).flatMap fun x => (List.range n2).map fun y => (x, y)).length = n1 * n2 := by
  rw [List.length_flatMap, List.map_congr_left (g := fun _ => n2) (fun l _ => by simp), List.map_const', List.length_range, List.sum_replicate_nat]
def code (B : Nat) (k : Nat) (w : List Nat) : Nat := w.foldl (fun k a => k * B + a + 1) k
theorem code_app (B k : Nat) (u z : List Nat) : code B k (u ++ z) = code B (code B k u) z := by simp [code, List.foldl_append]
theorem code_one (B k a : Nat) : code B k [a] = k * B + a + 1 := rfl
theorem code_ge {B : Nat} (hB : 0 < B) : ∀ (z : List Nat) (k : Nat), k ≤ code B k z
  | [], k => Nat.le_refl _
  | a :: z, k => by
    have h := code_ge hB z (k * B + a + 1)
    have h2 : k ≤ k * B := Nat.le_mul_of_pos_right k hB
    show k ≤ code B (k * B + a + 1) z
    omega
theorem code_lt {B : Nat} (hB : 0 < B) : ∀ (z : List Nat) (k k' : Nat), k < k' → code B k z < code B k' z
  | [], _, _, h => h
  | a :: z, k, k', h => code_lt hB z _ _ (by have := Nat.mul_lt_mul_of_pos_right h hB; show k * B + a + 1 < k' * B + a + 1; omega)
theorem code_step {B k k' a : Nat} (ha : a < B) (h : k < k') : k * B + a + 1 ≤ k' * B := by
  have h1 : (k + 1) * B ≤ k' * B := Nat.mul_le_mul_right B h
  rw [Nat.succ_mul] at h1
  omega
theorem code_inj {B : Nat} (hB : 0 < B) : ∀ (n : Nat) (u v : List Nat), u.length ≤ n → Word B u → Word B v → code B 0 u = code B 0 v → u = v
  | n, u, v, hl, hu, hv, e => by
    rcases List.eq_nil_or_concat u with rfl | ⟨u', a, rfl⟩
    · rcases List.eq_nil_or_concat v with rfl | ⟨v', b, rfl⟩
      · rfl
      · rw [List.concat_eq_append, code_app, code_one] at e
        have e' : 0 = code B 0 v' * B + b + 1 := e
        omega
    · rcases List.eq_nil_or_concat v with rfl | ⟨v', b, rfl⟩
      · rw [List.concat_eq_append, code_app, code_one] at e
        have e' : code B 0 u' * B + a + 1 = 0 := e
        omega
      · rw [List.concat_eq_append] at hl hu e ⊢
        rw [List.concat_eq_append] at hv e ⊢
        rw [code_app, code_app, code_one, code_one] at e
        have ha : a < B := hu a (List.mem_append_right _ (List.mem_singleton.mpr rfl))
        have hb : b < B := hv b (List.mem_append_right _ (List.mem_singleton.mpr rfl))
        have hc : code B 0 u' = code B 0 v' := by
          rcases Nat.lt_trichotomy (code B 0 u') (code B 0 v') with h | h | h
          · have := code_step ha h; omega
          · exact h
          · have := code_step hb h; omega
        rw [hc] at e
        have hab : a = b := by omega
        match n, hl with
        | 0, hl => exact absurd hl (by rw [List.length_append]; show ¬ (_ + 1 ≤ 0); omega)
        | n + 1, hl =>
          rw [hab, code_inj hB n u' v' (by rw [List.length_append] at hl; exact Nat.le_of_succ_le_succ hl) (fun x hx => hu x (List.mem_append_left _ hx)) (fun x hx => hv x (List.mem_append_left _ hx)) hc]
def Least (B : Nat) (L1 L2 : List Nat → Bool) (w : List Nat) : Prop := Word B w ∧ L1 w ≠ L2 w ∧ ∀ v, Word B v → code B 0 v < code B 0 w → L1 v = L2 v
theorem Least.one {B : Nat} (hB : 0 < B) {L1 L2 : List Nat → Bool} {w w' : List Nat} (h : Least B L1 L2 w) (h' : Least B L1 L2 w') : w = w' := by
  refine code_inj hB _ w w' (Nat.le_refl _) h.1 h'.1 ?_
  rcases Nat.lt_trichotomy (code B 0 w) (code B 0 w') with z | z | z
  · exact absurd (h'.2.2 w h.1 z) h.2.1
  · exact z
  · exact absurd (h.2.2 w' h'.1 z) h'.2.1
theorem Least.symm {B : Nat} {L1 L2 : List Nat → Bool} {w : List Nat} (h : Least B L1 L2 w) : Least B L2 L1 w := ⟨h.1, fun e => h.2.1 e.symm, fun v hv l => (h.2.2 v hv l).symm⟩
theorem Least.not {B : Nat} {L1 L2 : List Nat → Bool} {w : List Nat} (h : Least B L1 L2 w) (e : LEq B L1 L2) : False := h.2.1 (e w h.1)
def Prn (B : Nat) (L1 L2 : List Nat → Bool) (ws : List (List Nat)) (u : List Nat) : Prop := ∀ z, Word B z → L1 (u ++ z) ≠ L2 (u ++ z) → ∃ x ∈ ws, code B 0 x < code B 0 u ∧ L1 (x ++ z) ≠ L2 (x ++ z)
theorem Prn.more {B : Nat} {L1 L2 : List Nat → Bool} {ws new : List (List Nat)} {u : List Nat} (h : Prn B L1 L2 ws u) : Prn B L1 L2 (ws ++ new) u := fun z hz e => by
  obtain ⟨x, h1, h2⟩ := h z hz e
  exact ⟨x, List.mem_append_left _ h1, h2⟩
theorem agree_key {B : Nat} (hB : 0 < B) {L1 L2 : List Nat → Bool} {ws : List (List Nat)} {N : Nat} (h1 : [] ∈ ws) (hw : ∀ u ∈ ws, Word B u)
    (h2 : ∀ u ∈ ws, ∀ a, a < B → code B 0 (u ++ [a]) < N → u ++ [a] ∈ ws ∨ Prn B L1 L2 ws (u ++ [a])) (h3 : ∀ u ∈ ws, code B 0 u < N → L1 u = L2 u) :
    ∀ (n : Nat) (v : List Nat), code B 0 v ≤ n → Word B v → code B 0 v < N → L1 v = L2 v
  | n, v, hn, hv, hN => by
    have pre : ∀ (z u : List Nat), u ∈ ws → u ++ z = v → L1 v = L2 v := by
      intro z
      induction z with
      | nil => intro u hu e; rw [List.append_nil] at e; subst e; exact h3 u hu hN
      | cons a z ih =>
        intro u hu e
        have e2 : (u ++ [a]) ++ z = v := by rw [List.append_assoc]; exact e
        have ha : a < B := hv a (by rw [← e]; exact List.mem_append_right _ List.mem_cons_self)
        have hz : Word B z := fun x hx => hv x (by rw [← e]; exact List.mem_append_right _ (List.mem_cons_of_mem _ hx))
        have hle : code B 0 (u ++ [a]) ≤ code B 0 v := by rw [← e2, code_app B 0 (u ++ [a])]; exact code_ge hB z _
        rcases h2 u hu a ha (by omega) with y | y
        · exact ih _ y e2
        · cases hb : decide (L1 v = L2 v) with
          | true => exact of_decide_eq_true hb
          | false =>
            have hne : L1 v ≠ L2 v := of_decide_eq_false hb
            rw [← e2] at hne
            obtain ⟨x, hx, hlt, hxz⟩ := y z hz hne
            have hl2 : code B 0 (x ++ z) < code B 0 v := by
              rw [← e2, code_app, code_app B 0 (u ++ [a])]; exact code_lt hB z _ _ hlt
            match n, hn with
            | 0, hn => omega
            | n + 1, hn => exact absurd (agree_key hB h1 hw h2 h3 n (x ++ z) (by omega) ((hw x hx).app hz) (by omega)) hxz
    exact pre v [] h1 rfl
structure Bfs (B : Nat) (L1 L2 : List Nat → Bool) (ws : List (List Nat)) (t l : Nat) : Prop where
  head : ws[0]? = some []
  inc : ∀ (i j : Nat) (u v : List Nat), i < j → ws[i]? = some u → ws[j]? = some v → code B 0 u < code B 0 v
  word : ∀ u ∈ ws, Word B u
  done : ∀ (i : Nat) (u : List Nat) (a : Nat), ws[i]? = some u → a < B → (i < t ∨ i = t ∧ a < l) → u ++ [a] ∈ ws ∨ Prn B L1 L2 ws (u ++ [a])
  lim : ∀ u, ws[t]? = some u → ∀ x ∈ ws, code B 0 x < code B 0 u * B + l + 1
section
variable {B : Nat} {L1 L2 : List Nat → Bool} {ws : List (List Nat)} {t l : Nat}
theorem Bfs.start : Bfs B L1 L2 [[]] 0 0 := ⟨rfl, fun i j u v hij hi hj => by
    have := (List.getElem?_eq_some_iff.mp hj).1
    have : j < 1 := this
    omega, fun u hu => by rw [List.mem_singleton.mp hu]; exact .nil _, fun i u a _ _ h => by omega, fun u hu x hx => by
    rw [List.mem_singleton.mp hx]; show 0 < _; omega⟩
theorem Bfs.skip (b : Bfs B L1 L2 ws t l) {u : List Nat} (hu : ws[t]? = some u) (h : Prn B L1 L2 ws (u ++ [l])) : Bfs B L1 L2 ws t (l + 1) := ⟨b.head, b.inc, b.word, fun i v a hv ha hh => by
    by_cases e : i = t ∧ a = l
    · obtain ⟨rfl, rfl⟩ := e
      rw [hu] at hv
      have := Option.some.inj hv
      subst this
      exact .inr h
    · exact b.done i v a hv ha (by omega), fun u hu x hx => by have := b.lim u hu x hx; omega⟩
theorem Bfs.add (b : Bfs B L1 L2 ws t l) {u : List Nat} (hu : ws[t]? = some u) (hl : l < B) : Bfs B L1 L2 (ws ++ [u ++ [l]]) t (l + 1) := by
  have ht : t < ws.length := (List.getElem?_eq_some_iff.mp hu).1
  have hc : code B 0 (u ++ [l]) = code B 0 u * B + l + 1 := by rw [code_app, code_one]
  refine ⟨?_, fun i j v v' hij hi hj => ?_, fun x hx => ?_, fun i v a hv ha hh => ?_, fun v hv x hx => ?_⟩
  · rw [List.getElem?_append_left (by omega)]; exact b.head
  · have hj' := (List.getElem?_eq_some_iff.mp hj).1
    rw [List.length_append] at hj'
    have hj2 : j < ws.length + 1 := hj'
    rw [List.getElem?_append_left (by omega)] at hi
    by_cases e : j < ws.length
    · rw [List.getElem?_append_left e] at hj
      exact b.inc i j v v' hij hi hj
    · have : j = ws.length := by omega
      subst this
      rw [List.getElem?_append_right (Nat.le_refl _), Nat.sub_self] at hj
      have := Option.some.inj hj
      subst this
      rw [hc]
      exact b.lim u hu v (List.mem_of_getElem? hi)
  · rcases List.mem_append.mp hx with y | y
    · exact b.word x y
    · rw [List.mem_singleton.mp y]
      exact (b.word u (List.mem_of_getElem? hu)).app (.cons hl (.nil _))
  · by_cases e : i = t ∧ a = l
    · obtain ⟨rfl, rfl⟩ := e
      rw [List.getElem?_append_left ht, hu] at hv
      have := Option.some.inj hv
      subst this
      exact .inl (List.mem_append_right _ (List.mem_singleton.mpr rfl))
    · rw [List.getElem?_append_left (by omega)] at hv
      rcases b.done i v a hv ha (by omega) with y | y
      · exact .inl (List.mem_append_left _ y)
      · exact .inr y.more
  · rw [List.getElem?_append_left ht, hu] at hv
    have := Option.some.inj hv
    subst this
    rcases List.mem_append.mp hx with y | y
    · have := b.lim u hu x y; omega
    · rw [List.mem_singleton.mp y, hc]; omega
theorem Bfs.next (b : Bfs B L1 L2 ws t B) (ht : t < ws.length) : Bfs B L1 L2 ws (t + 1) 0 := ⟨b.head, b.inc, b.word, fun i v a hv ha hh => b.done i v a hv ha (by omega), fun v hv x hx => by
  have h1 := b.inc t (t + 1) _ v (Nat.lt_succ_self t) (List.getElem?_eq_getElem ht) hv
  have h2 := b.lim _ (List.getElem?_eq_getElem ht) x hx
  have h3 : (code B 0 ws[t] + 1) * B ≤ code B 0 v * B := Nat.mul_le_mul_right B h1
  rw [Nat.succ_mul] at h3
  omega⟩
theorem Bfs.nil (b : Bfs B L1 L2 ws t l) : [] ∈ ws := List.mem_of_getElem? b.head
theorem Bfs.here (b : Bfs B L1 L2 ws t l) (hB : 0 < B) {u : List Nat} (hu : ws[t]? = some u) (hl : l < B) (h : ∀ x ∈ ws, L1 x = L2 x) : ∀ v, Word B v → code B 0 v < code B 0 (u ++ [l]) → L1 v = L2 v := fun v hv hN => by
  refine agree_key hB b.nil b.word (fun x hx a ha hc => ?_) (fun x hx _ => h x hx) _ v (Nat.le_refl _) hv hN
  obtain ⟨i, hi⟩ := List.getElem?_of_mem hx
  refine b.done i x a hi ha ?_
  rw [code_app, code_app, code_one, code_one] at hc
  rcases Nat.lt_trichotomy i t with y | y | y
  · exact .inl y
  · subst y
    rw [hu] at hi
    have := Option.some.inj hi
    subst this
    exact .inr ⟨rfl, by omega⟩
  · have := code_step hl (b.inc t i u x y hu hi)
    omega
theorem Bfs.visit (b : Bfs B L1 L2 ws t 0) (hB : 0 < B) {u : List Nat} (hu : ws[t]? = some u) (h : ∀ (i : Nat) (x : List Nat), i < t → ws[i]? = some x → L1 x = L2 x) : ∀ v, Word B v → code B 0 v < code B 0 u → L1 v = L2 v := fun v hv hN => by
  have idx : ∀ (i : Nat) (x : List Nat), ws[i]? = some x → code B 0 x < code B 0 u → i < t := fun i x hi hc => by
    rcases Nat.lt_trichotomy i t with y | y | y
    · exact y
    · subst y
      rw [hu] at hi
      have := Option.some.inj hi
      subst this
      omega
    · have := b.inc t i u x y hu hi; omega
  refine agree_key hB b.nil b.word (fun x hx a ha hc => ?_) (fun x hx hc => ?_) _ v (Nat.le_refl _) hv hN
  · obtain ⟨i, hi⟩ := List.getElem?_of_mem hx
    refine b.done i x a hi ha (.inl (idx i x hi ?_))
    rw [code_app] at hc
    have := code_ge hB [a] (code B 0 x)
    omega
  · obtain ⟨i, hi⟩ := List.getElem?_of_mem hx
    exact h i x (idx i x hi hc) hi
theorem Bfs.all (b : Bfs B L1 L2 ws t 0) (hB : 0 < B) (ht : ws.length ≤ t) (h : ∀ x ∈ ws, L1 x = L2 x) : LEq B L1 L2 := fun v hv => by
  refine agree_key hB (N := code B 0 v + 1) b.nil b.word (fun x hx a ha hc => ?_) (fun x hx _ => h x hx) _ v (Nat.le_refl _) hv (Nat.lt_succ_self _)
  obtain ⟨i, hi⟩ := List.getElem?_of_mem hx
  exact b.done i x a hi ha (.inl (by have := (List.getElem?_eq_some_iff.mp hi).1; omega))
end
structure Fo (n : Nat) (hs : List Nat) (cl dp : Nat → Nat) : Prop where
  len : hs.length = n
  lt : ∀ x, x < n → hs.getD x 0 < n
  dep : ∀ x, x < n → hs.getD x 0 ≠ x → dp (hs.getD x 0) < dp x
  cls : ∀ x, x < n → cl (hs.getD x 0) = cl x
  fix : ∀ x, x < n → hs.getD x 0 = x → cl x = x
  root : ∀ x, x < n → cl x < n ∧ hs.getD (cl x) 0 = cl x
theorem set_getD (hs : List Nat) (a b x : Nat) (ha : a < hs.length) : (hs.set a b).getD x 0 = if x = a then b else hs.getD x 0 := by
  rw [List.getD_eq_getElem?_getD, List.getElem?_set]
  by_cases e : a = x
  · subst e; rw [if_pos rfl, if_pos ha, if_pos rfl]; rfl
  · rw [if_neg e, if_neg (fun z => e z.symm), List.getD_eq_getElem?_getD]
section
variable {n : Nat} {hs : List Nat} {cl dp : Nat → Nat}
theorem Fo.idem (f : Fo n hs cl dp) {x : Nat} (hx : x < n) : cl (cl x) = cl x := f.fix _ (f.root x hx).1 (f.root x hx).2
theorem Fo.half (f : Fo n hs cl dp) {x : Nat} (hx : x < n) (hn : hs.getD x 0 ≠ x) : Fo n (hs.set x (hs.getD (hs.getD x 0) 0)) cl dp ∧ dp (hs.getD (hs.getD x 0) 0) < dp x ∧ hs.getD (hs.getD x 0) 0 < n ∧ cl (hs.getD (hs.getD x 0) 0) = cl x := by
  have h1 := f.lt x hx
  have d1 := f.dep x hx hn
  have d2 : dp (hs.getD (hs.getD x 0) 0) < dp x := by
    by_cases e : hs.getD (hs.getD x 0) 0 = hs.getD x 0
    · rw [e]; exact d1
    · exact Nat.lt_trans (f.dep _ h1 e) d1
  have hl : x < hs.length := by rw [f.len]; exact hx
  have hc : cl (hs.getD (hs.getD x 0) 0) = cl x := by rw [f.cls _ h1, f.cls x hx]
  refine ⟨⟨by rw [List.length_set, f.len], fun y hy => ?_, fun y hy h => ?_, fun y hy => ?_, fun y hy h => ?_, fun y hy => ?_⟩, d2, f.lt _ h1, hc⟩
  · rw [set_getD _ _ _ _ hl]
    split
    · exact f.lt _ h1
    · exact f.lt y hy
  · rw [set_getD _ _ _ _ hl] at h ⊢
    by_cases e : y = x
    · rw [if_pos e, e]; exact d2
    · rw [if_neg e] at h ⊢; exact f.dep y hy h
  · rw [set_getD _ _ _ _ hl]
    by_cases e : y = x
    · rw [if_pos e, e]; exact hc
    · rw [if_neg e]; exact f.cls y hy
  · rw [set_getD _ _ _ _ hl] at h
    by_cases e : y = x
    · rw [if_pos e] at h
      rw [e] at h
      rw [h] at d2
      omega
    · rw [if_neg e] at h; exact f.fix y hy h
  · obtain ⟨r1, r2⟩ := f.root y hy
    refine ⟨r1, ?_⟩
    rw [set_getD _ _ _ _ hl, if_neg (fun e => hn (by rw [← e]; exact r2))]
    exact r2
theorem Fo.join (f : Fo n hs cl dp) {a b : Nat} (ha : a < n) (hb : b < n) (hne : cl a ≠ cl b) : ∃ dp', Fo n (hs.set (cl a) (cl b)) (fun x => if cl x = cl a then cl b else cl x) dp' := by
  obtain ⟨a1, a2⟩ := f.root a ha
  obtain ⟨b1, b2⟩ := f.root b hb
  have ia := f.idem ha
  have ib := f.idem hb
  generalize cl a = A at *
  generalize cl b = C at *
  have hl : A < hs.length := by rw [f.len]; exact a1
  refine ⟨fun x => if cl x = A then dp x + dp C + 1 else dp x, by rw [List.length_set, f.len], fun y hy => ?_, fun y hy h => ?_, fun y hy => ?_, fun y hy h => ?_, fun y hy => ?_⟩
  · rw [set_getD _ _ _ _ hl]
    split
    · exact b1
    · exact f.lt y hy
  · rw [set_getD _ _ _ _ hl] at h ⊢
    by_cases e : y = A
    · rw [if_pos e, e]
      show (if cl C = A then _ else dp C) < if cl A = A then dp A + dp C + 1 else _
      rw [if_neg (by rw [ib]; exact fun z => hne z.symm), if_pos ia]
      omega
    · rw [if_neg e] at h ⊢
      show (if cl (hs.getD y 0) = A then _ else _) < if cl y = A then _ else _
      rw [f.cls y hy]
      have := f.dep y hy h
      split <;> omega
  · rw [set_getD _ _ _ _ hl]
    by_cases e : y = A
    · rw [if_pos e, e]
      show (if cl C = A then C else cl C) = if cl A = A then C else cl A
      rw [if_neg (by rw [ib]; exact fun z => hne z.symm), if_pos ia, ib]
    · rw [if_neg e]
      show (if cl (hs.getD y 0) = A then _ else _) = _
      rw [f.cls y hy]
  · rw [set_getD _ _ _ _ hl] at h
    by_cases e : y = A
    · rw [if_pos e, e] at h; exact absurd h.symm hne
    · rw [if_neg e] at h
      have := f.fix y hy h
      show (if cl y = A then C else cl y) = y
      rw [this, if_neg e]
  · obtain ⟨r1, r2⟩ := f.root y hy
    show (if cl y = A then C else cl y) < n ∧ (hs.set A C).getD (if cl y = A then C else cl y) 0 = if cl y = A then C else cl y
    by_cases e : cl y = A
    · rw [if_pos e]
      refine ⟨b1, ?_⟩
      rw [set_getD _ _ _ _ hl, if_neg (fun z => hne z.symm)]
      exact b2
    · rw [if_neg e]
      refine ⟨r1, ?_⟩
      rw [set_getD _ _ _ _ hl, if_neg e]
      exact r2
end
theorem range_getD {n x : Nat} (h : x < n) : (List.range n).getD x 0 = x := by
  rw [List.getD_eq_getElem?_getD, List.getElem?_range h]; rfl
theorem Fo.begin {n p q : Nat} (hp : p < n) (hq : q < n) : Fo n ((List.range n).set p q) (fun x => if x = p then q else x) (fun x => if x = p then 1 else 0) := by
  have hl : p < (List.range n).length := by rw [List.length_range]; exact hp
  have g : ∀ x, x < n → ((List.range n).set p q).getD x 0 = if x = p then q else x := fun x hx => by
    rw [set_getD _ _ _ _ hl]
    split
    · rfl
    · exact range_getD hx
  refine ⟨by rw [List.length_set, List.length_range], fun y hy => ?_, fun y hy h => ?_, fun y hy => ?_, fun y hy h => ?_, fun y hy => ?_⟩
  · rw [g y hy]; split <;> omega
  · rw [g y hy] at h ⊢
    by_cases e : y = p
    · rw [if_pos e] at h ⊢
      show (if q = p then 1 else 0) < if y = p then 1 else 0
      rw [if_pos e, if_neg (by omega)]
      decide
    · rw [if_neg e] at h; exact absurd rfl h
  · rw [g y hy]
    by_cases e : y = p
    · subst e; simp
    · simp [e]
  · rw [g y hy] at h
    exact h
  · show (if y = p then q else y) < n ∧ _ = _
    by_cases e : y = p
    · rw [if_pos e]
      refine ⟨hq, ?_⟩
      rw [g q hq]; split <;> rfl
    · rw [if_neg e]
      refine ⟨hy, ?_⟩
      rw [g y hy, if_neg e]
def Snd (n : Nat) (pr : List (Nat × Nat)) (cl : Nat → Nat) : Prop := ∀ R : Nat → Nat → Prop, (∀ x, R x x) → (∀ x y, R x y → R y x) → (∀ x y z, R x y → R y z → R x z) → (∀ p ∈ pr, R p.1 p.2) → ∀ x y, x < n → y < n → cl x = cl y → R x y
theorem Snd.begin {n p q : Nat} : Snd n [(p, q)] (fun x => if x = p then q else x) := fun R rf sy tr h x y _ _ e => by
  have hpq : R p q := h (p, q) (List.mem_singleton.mpr rfl)
  have e' : (if x = p then q else x) = if y = p then q else y := e
  by_cases h1 : x = p <;> by_cases h2 : y = p
  · rw [h1, h2]; exact rf _
  · rw [if_pos h1, if_neg h2] at e'; rw [h1, ← e']; exact hpq
  · rw [if_neg h1, if_pos h2] at e'; rw [h2, e']; exact sy _ _ hpq
  · rw [if_neg h1, if_neg h2] at e'; rw [e']; exact rf _
theorem Snd.join {n : Nat} {pr : List (Nat × Nat)} {cl : Nat → Nat} (s : Snd n pr cl) {a b : Nat} (ha : a < n) (hb : b < n) : Snd n (pr ++ [(a, b)]) (fun x => if cl x = cl a then cl b else cl x) := fun R rf sy tr h x y hx hy e => by
  have hab : R a b := h (a, b) (List.mem_append_right _ (List.mem_singleton.mpr rfl))
  have s' := s R rf sy tr (fun p hp => h p (List.mem_append_left _ hp))
  have e' : (if cl x = cl a then cl b else cl x) = if cl y = cl a then cl b else cl y := e
  by_cases h1 : cl x = cl a <;> by_cases h2 : cl y = cl a
  · exact s' x y hx hy (h1.trans h2.symm)
  · rw [if_pos h1, if_neg h2] at e'
    exact tr _ _ _ (s' x a hx ha h1) (tr _ _ _ hab (s' b y hb hy e'))
  · rw [if_neg h1, if_pos h2] at e'
    exact tr _ _ _ (s' x b hx hb e') (tr _ _ _ (sy _ _ hab) (s' a y ha hy h2.symm))
  · rw [if_neg h1, if_neg h2] at e'
    exact s' x y hx hy e'
section
variable {B n p q : Nat} {bs : List Bool} {mv : List (List Nat)} {ws : List (List Nat)}
def prsOf (mv : List (List Nat)) (p q : Nat) (ws : List (List Nat)) : List (Nat × Nat) := ws.map fun w => (run mv p w, run mv q w)
theorem lang_app (bs : List Bool) (mv : List (List Nat)) (r : Nat) (u z : List Nat) : lang bs mv r (u ++ z) = lang bs mv (run mv r u) z := by unfold lang; rw [run_app]
theorem prn_snd {t l : Nat} (b : Bfs B (lang bs mv p) (lang bs mv q) ws t l) {u : List Nat} (hu : ws[t]? = some u) {cl : Nat → Nat} (s : Snd n (prsOf mv p q ws) cl) (h1 : run mv p (u ++ [l]) < n) (h2 : run mv q (u ++ [l]) < n) (e : cl (run mv p (u ++ [l])) = cl (run mv q (u ++ [l]))) :
    Prn B (lang bs mv p) (lang bs mv q) ws (u ++ [l]) := fun z hz hne => by
  rw [lang_app, lang_app] at hne
  by_cases hall : ∀ x ∈ ws, lang bs mv (run mv p x) z = lang bs mv (run mv q x) z
  · refine absurd ?_ hne
    exact s (fun a b => lang bs mv a z = lang bs mv b z) (fun _ => rfl) (fun _ _ h => h.symm) (fun _ _ _ h h' => h.trans h') (fun pr hpr => by
      obtain ⟨x, hx, rfl⟩ := List.mem_map.mp hpr
      exact hall x hx) _ _ h1 h2 e
  · obtain ⟨x, hx⟩ := Classical.not_forall.mp hall
    obtain ⟨hx1, hx2⟩ := Classical.not_imp.mp hx
    refine ⟨x, hx1, ?_, by rw [lang_app, lang_app]; exact hx2⟩
    rw [code_app, code_one]
    exact b.lim u hu x hx1
theorem prn_seen {t l : Nat} (b : Bfs B (lang bs mv p) (lang bs mv q) ws t l) {u : List Nat} (hu : ws[t]? = some u) (e : (run mv p (u ++ [l]), run mv q (u ++ [l])) ∈ prsOf mv p q ws) :
    Prn B (lang bs mv p) (lang bs mv q) ws (u ++ [l]) := fun z hz hne => by
  obtain ⟨x, hx, ex⟩ := List.mem_map.mp e
  injection ex with e1 e2
  refine ⟨x, hx, ?_, ?_⟩
  · rw [code_app, code_one]; exact b.lim u hu x hx
  · rw [lang_app, lang_app, e1, e2, ← lang_app, ← lang_app]; exact hne
theorem prs_len (m : Moves n B mv) (hp : p < n) (hq : q < n) (hw : ∀ u ∈ ws, Word B u) (nd : (prsOf mv p q ws).Nodup) : ws.length ≤ n * n := by
  have e : (prsOf mv p q ws).length = ws.length := List.length_map ..
  rw [← e, ← prod_len n n]
  refine List.Nodup.length_le_of_subset nd fun r hr => ?_
  obtain ⟨x, hx, rfl⟩ := List.mem_map.mp hr
  exact List.mem_flatMap.mpr ⟨_, List.mem_range.mpr (m.run hp (hw x hx)), List.mem_map.mpr ⟨_, List.mem_range.mpr (m.run hq (hw x hx)), rfl⟩⟩
theorem nodup_snoc {α : Type} {l : List α} {x : α} (h : l.Nodup) (hn : x ∉ l) : (l ++ [x]).Nodup := by
  rw [List.nodup_append]
  exact ⟨h, by simp, fun a ha b hb e => hn (by rw [← List.mem_singleton.mp hb, ← e]; exact ha)⟩
end
theorem range_cast (m : Nat) : ((List.range m).map fun (i : Nat) => V.int i) = (castI (List.range m)).map V.int := by rw [castI, List.map_map]; rfl
def spHead : Sp := fun vs H Q _ => ∃ (h : Addr) (hs : List Nat) (n : Nat) (cl dp : Nat → Nat) (x : Nat), vs = [.ref h, .int x] ∧ H h = some (.lst ((castI hs).map V.int)) ∧ Fo n hs cl dp ∧ x < n ∧
  ∀ (hs' : List Nat) (H' : Hp), KB h H H' → H' h = some (.lst ((castI hs').map V.int)) → Fo n hs' cl dp → Q (.int (cl x : Nat)) H'
section
variable {P : Program} {w : World} {K : PySem.W.Frag} {mg : Str → Option Value} {base : Heap}
theorem sc_head_of : FnScope ["heads", "room"] ["heads", "room"] (defScope s_head_of) := ⟨rfl, rfl, rfl, by decide +kernel, rfl, by decide +kernel, by decide +kernel⟩
theorem ok_head_of {a : Adr} (T : Txt K mg a) : FnOk P w K mg base CX0 1 a.f_head_of a.fd_head_of ["heads", "room"] spHead := by
  refine T.F_head_of.ok sc_head_of (fun vs H Q E h => ?_) (fun cdv A outer s H vs Q E hr h => ?_)
  · obtain ⟨h, hs, n, cl, dp, x, rfl, _⟩ := h
    rfl
  · obtain ⟨h, hs, n, cl, dp, x, rfl, eh, fo, hx, k⟩ := h
    refine ⟨_, (pss_cons (ps_while PassesOwn.never (pt_cmpR op_ne (pe_ix (ix_listK K) (pv 0) (pv 1) (fun _ _ => rfl)) (pv 1) (nomark _))
      (pss_cons (ps_asg (pe_ix (ix_listK K) (pv 0) (pe_ix (ix_listK K) (pv 0) (pv 1) (fun _ _ => rfl)) (fun _ _ => rfl)) (pg_sub (pv 0) (pv 1) set_list))
      (pss_one (ps_set (i := 1) sc_head_of.nd rfl (Or.inl rfl) (pe_ix (ix_listK K) (pv 0) (pv 1) (fun _ _ => rfl))))))
    (pss_one (ps_ret (pv 1)))), ?_⟩
    refine whileM (fun m σ H' => ∃ (y : Nat) (hs' : List Nat), m = dp y ∧ σ = [some (.ref h), some (.int (y : Nat))] ∧ y < n ∧ cl y = cl x ∧ KB h H H' ∧ H' h = some (.lst ((castI hs').map V.int)) ∧ Fo n hs' cl dp)
      ⟨_, x, hs, rfl, rfl, hx, rfl, .refl _ _, eh, fo⟩ ?_ ?_
    · rintro m σ H1 ⟨y, hs', rfl, rfl, hy, cy, k1, e1, f1⟩
      have ly : y < hs'.length := by rw [f1.len]; exact hy
      refine ⟨_, rfl, _, rfl, h, _, _, _, rfl, rfl, .of e1, atI_nat (castI_item ly), _, rfl, rfl, _, rfl, ?_⟩
      refine ite2 (fun z => ?_) (fun z => ?_)
      · have hne : hs'.getD y 0 ≠ y := fun e => by rw [e] at z; simp at z
        obtain ⟨f2, d2, l2, c2⟩ := f1.half hy hne
        have l1 : hs'.getD y 0 < hs'.length := by rw [f1.len]; exact f1.lt y hy
        refine ⟨_, rfl, _, rfl, _, rfl, h, _, _, _, rfl, rfl, .of e1, atI_nat (castI_item ly), h, _, _, _, rfl, rfl, .of e1, atI_nat (castI_item l1), ?_⟩
        refine ⟨_, rfl, _, rfl, h, _, _, y, rfl, rfl, e1, ixN_at (by rw [List.length_map, castI_len]; exact ly), ?_⟩
        rw [castI_put]
        have e2 : (upd H1 h (.lst ((castI (hs'.set y (hs'.getD (hs'.getD y 0) 0))).map V.int))) h = some (.lst ((castI (hs'.set y (hs'.getD (hs'.getD y 0) 0))).map V.int)) := upd_same
        have g2 : (hs'.set y (hs'.getD (hs'.getD y 0) 0)).getD y 0 = hs'.getD (hs'.getD y 0) 0 := by rw [set_getD _ _ _ _ ly, if_pos rfl]
        refine ⟨_, rfl, _, rfl, h, _, _, .int (hs'.getD (hs'.getD y 0) 0 : Nat), rfl, rfl, .of e2, atI_nat (by rw [castI_item (by rw [List.length_set]; exact ly), g2]), _, d2, hs'.getD (hs'.getD y 0) 0, _, rfl, rfl, l2, by rw [c2, cy], k1.trans KB.write, e2, f2⟩
      · have he : hs'.getD y 0 = y := by
          by_cases e : hs'.getD y 0 = y
          · exact e
          · exfalso
            apply z
            rw [decide_eq_false (fun q => e (by injection q with q; omega))]
            rfl
        refine ⟨_, rfl, ?_⟩
        have := k hs' H1 k1 e1 f1
        rw [← cy, f1.fix y hy he] at this
        exact this
    · rintro σ H Q Q' hQ ⟨v1, q1, v2, q2, a1, x1, i1, w1, e4, e5, h6, h7, v3, q3, q4, b1, q5, q⟩
      exact ⟨v1, q1, v2, q2, a1, x1, i1, w1, e4, e5, h6, h7, v3, q3, q4, b1, q5, hQ _ _ q⟩
end
def MetAt (mv : List (List Nat)) (p q : Nat) (hd M : Addr) (H : Hp) (a : Addr) (w : List Nat) : Prop := ∃ L, H a = some (.tup [.int (run mv p w : Nat), .int (run mv q w : Nat), .ref L]) ∧ H L = some (.lst ((castI w).map V.int)) ∧ L ≠ hd ∧ L ≠ M
def Mets (mv : List (List Nat)) (p q : Nat) (hd M : Addr) (H : Hp) (qs : List Addr) (ws : List (List Nat)) : Prop := Paired (MetAt mv p q hd M H) qs ws
theorem Mets.keep {mv : List (List Nat)} {p q : Nat} {hd M : Addr} {H H' : Hp} {qs : List Addr} {ws : List (List Nat)} (m : Mets mv p q hd M H qs ws) (k : ∀ b o, H b = some o → b ≠ hd → b ≠ M → H' b = some o) (h1 : ∃ xs, H hd = some (.lst xs)) (h2 : ∃ xs, H M = some (.lst xs)) : Mets mv p q hd M H' qs ws :=
  Paired.mapP m fun a w ⟨L, e1, e2, n1, n2⟩ => ⟨L, k _ _ e1 (fun y => by obtain ⟨xs, z⟩ := h1; rw [y, z] at e1; cases e1) (fun y => by obtain ⟨xs, z⟩ := h2; rw [y, z] at e1; cases e1), k _ _ e2 n1 n2, n1, n2⟩
def spPart : Sp := fun vs H Q _ => ∃ (ma nm : Addr) (bs : List Bool) (mv : List (List Nat)) (B p q : Nat), vs = [.ref ma, .int p, .int q] ∧ MachAt H ma nm bs mv ∧ Moves bs.length B mv ∧ 0 < B ∧ B ≤ 100 ∧ bs.length ≤ 80 ∧ p < bs.length ∧ q < bs.length ∧
  (∀ H', Same H H' → LEq B (lang bs mv p) (lang bs mv q) → Q .non H') ∧ ∀ (R : Addr) (u : List Nat) (H' : Hp), H R = none → Same H H' → H' R = some (.lst ((castI u).map V.int)) → u.length ≤ 9000 → Least B (lang bs mv p) (lang bs mv q) u → Q (.ref R) H'
theorem least_nil {B : Nat} {L1 L2 : List Nat → Bool} (h : L1 [] ≠ L2 []) : Least B L1 L2 [] := ⟨.nil _, h, fun v _ l => absurd l (Nat.not_lt_zero _)⟩
theorem sq_le {n : Nat} (h : n ≤ 80) : n * n ≤ 6400 := Nat.mul_le_mul h h
section
variable {P : Program} {w : World} {K : PySem.W.Frag} {mg : Str → Option Value} {base : Heap}
theorem sc_parting_of : FnScope ["machine", "one", "other", "yes", "moves", "heads", "met", "turn", "pair", "letter", "left", "right"] ["machine", "one", "other"] (defScope s_parting_of) := ⟨rfl, rfl, rfl, by decide +kernel, rfl, by decide +kernel, by decide +kernel⟩
set_option maxHeartbeats 16000000 in
theorem ok_parting_of {a : Adr} (T : Txt K mg a) : FnOk P w K mg base CX0 2 a.f_parting_of a.fd_parting_of ["machine", "one", "other"] spPart := by
  have G_head_of : FnOk P w K mg base CX0 1 a.f_head_of a.fd_head_of ["heads", "room"] spHead := ok_head_of T
  refine T.F_parting_of.ok sc_parting_of (fun vs H Q E h => ?_) (fun cdv A outer s H vs Q E hr h => ?_)
  · obtain ⟨ma, nm, bs, mv, B, p, q, rfl, _⟩ := h
    rfl
  · obtain ⟨ma, nm, bs, mv, B, p, q, rfl, ⟨ya, va, ps, e1, e2, e3, tp⟩, mvs, hB0, hB, hn, hp, hq, kN, kS⟩ := h
    have hr_head_of : Room 1 _ := hr
    refine ⟨_, (pss_cons (ps_set (i := 3) sc_parting_of.nd rfl (Or.inl rfl) (pe_ix (ix_tupK K) (pv 0) pe_int (fun _ _ => rfl)))
    (pss_cons (ps_set (i := 4) sc_parting_of.nd rfl (Or.inl rfl) (pe_ix (ix_tupK K) (pv 0) pe_int (fun _ _ => rfl)))
    (pss_cons (ps_if (pt_cmpR op_ne (pe_ix (ix_tupK K) (pv 3) (pv 1) (fun _ _ => rfl)) (pe_ix (ix_tupK K) (pv 3) (pv 2) (fun _ _ => rfl)) (nomark _))
      (pss_one (ps_ret (pe_lst pa_nil)))
      pss_nil)
    (pss_cons (ps_set (i := 5) sc_parting_of.nd rfl (Or.inl rfl) (pe_listrange1 hr.hd rfl T.z_list rfl T.z_range (pa_cons (pe_callB (call_lenK K) (by rfl) T.z_len bt_len (pa_cons (pv 3) pa_nil)) pa_nil)))
    (pss_cons (ps_asg (pv 2) (pg_sub (pv 5) (pv 1) set_list))
    (pss_cons (ps_set (i := 6) sc_parting_of.nd rfl (Or.inl rfl) (pe_lst (pa_cons (pe_tup (pa_cons (pv 1) (pa_cons (pv 2) (pa_cons (pe_lst pa_nil) pa_nil)))) pa_nil)))
    (pss_cons (ps_set (i := 7) sc_parting_of.nd rfl (Or.inl rfl) pe_int)
    (pss_cons (ps_while PassesOwn.never (pt_cmpR op_lt (pv 7) (pe_callB (call_lenK K) (by rfl) T.z_len bt_len (pa_cons (pv 6) pa_nil)) (nomark _))
      (pss_cons (ps_set (i := 8) sc_parting_of.nd rfl (Or.inl rfl) (pe_ix (ix_listK K) (pv 6) (pv 7) (fun _ _ => rfl)))
      (pss_cons (ps_for PassesOwn.never rfl (pi_range1 rfl T.z_range (pa_cons (pe_callB (call_lenK K) (by rfl) T.z_len bt_len (pa_cons (pe_ix (ix_tupK K) (pv 4) pe_int (fun _ _ => rfl)) pa_nil)) pa_nil)) (pg_name (i := 9) sc_parting_of.nd rfl (Or.inl rfl))
        (pss_cons (ps_set (i := 10) sc_parting_of.nd rfl (Or.inl rfl) (pe_ix (ix_tupK K) (pe_ix (ix_tupK K) (pv 4) (pe_ix (ix_tupK K) (pv 8) pe_int (fun _ _ => rfl)) (fun _ _ => rfl)) (pv 9) (fun _ _ => rfl)))
        (pss_cons (ps_set (i := 11) sc_parting_of.nd rfl (Or.inl rfl) (pe_ix (ix_tupK K) (pe_ix (ix_tupK K) (pv 4) (pe_ix (ix_tupK K) (pv 8) pe_int (fun _ _ => rfl)) (fun _ _ => rfl)) (pv 9) (fun _ _ => rfl)))
        (pss_cons (ps_if (pt_cmpR op_ne (pe_ix (ix_tupK K) (pv 3) (pv 10) (fun _ _ => rfl)) (pe_ix (ix_tupK K) (pv 3) (pv 11) (fun _ _ => rfl)) (nomark _))
          (pss_one (ps_ret (pe_op op_cat (pe_ix (ix_tupK K) (pv 8) pe_int (fun _ _ => rfl)) (pe_lst (pa_cons (pv 9) pa_nil)))))
          pss_nil)
        (pss_one (ps_if (pt_cmpR op_ne (pe_call G_head_of hr_head_of rfl T.m_head_of T.k_head_of T.b_head_of .nil pass0 (pa_cons (pv 5) (pa_cons (pv 10) pa_nil))) (pe_call G_head_of hr_head_of rfl T.m_head_of T.k_head_of T.b_head_of .nil pass0 (pa_cons (pv 5) (pa_cons (pv 11) pa_nil))) (nomark _))
          (pss_cons (ps_asg (pe_call G_head_of hr_head_of rfl T.m_head_of T.k_head_of T.b_head_of .nil pass0 (pa_cons (pv 5) (pa_cons (pv 11) pa_nil))) (pg_sub (pv 5) (pe_call G_head_of hr_head_of rfl T.m_head_of T.k_head_of T.b_head_of .nil pass0 (pa_cons (pv 5) (pa_cons (pv 10) pa_nil))) set_list))
          (pss_one (ps_expr (pe_bm PySem.F.plainAttrs_list PySem.F.slot_list_append PySem.F.type_list_append mt_append (pv 6) (pa_cons (pe_tup (pa_cons (pv 10) (pa_cons (pv 11) (pa_cons (pe_op op_cat (pe_ix (ix_tupK K) (pv 8) pe_int (fun _ _ => rfl)) (pe_lst (pa_cons (pv 9) pa_nil))) pa_nil)))) pa_nil)))))
          pss_nil))))))
      (pss_one (ps_set (i := 7) sc_parting_of.nd rfl (Or.inl rfl) (pe_op op_add (pv 7) pe_int))))))
    (pss_one (ps_ret pe_non)))))))))), ?_⟩
    have big : (10000 : Nat) ≤ sizeLine := by decide
    have sq := sq_le hn
    have yAt : ∀ {H' : Hp} (x : Nat), Same H H' → x < bs.length → SqT K H' ya (bs.map V.bl) ∧ atI (bs.map V.bl) (x : Int) = some (.bl (bs.getD x false)) := fun x s hx => ⟨.of (s _ _ e2), atI_nat (by rw [List.getElem?_map, item_at false hx]; rfl)⟩
    have mAt : ∀ {H' : Hp} (x l : Nat), Same H H' → x < bs.length → l < B → SqT K H' va (ps.map V.ref) ∧ atI (ps.map V.ref) (x : Int) = some (.ref (ps.getD x 0)) ∧ SqT K H' (ps.getD x 0) ((castI (mv.getD x [])).map V.int) ∧ atI ((castI (mv.getD x [])).map V.int) (0 + (l : Int)) = some (.int (stp mv x l : Nat)) := fun x l s hx hl => by
      obtain ⟨h1, h2, h3⟩ := mvs.row tp hx
      exact ⟨.of (s _ _ e3), atI_nat (by rw [List.getElem?_map, h1]; rfl), .of (s _ _ h2), by rw [Int.zero_add]; exact atI_nat (castI_item (by rw [h3]; exact hl))⟩
    refine ⟨_, rfl, ma, _, _, .ref ya, rfl, rfl, .of e1, atI_nat (j := 1) rfl, ?_⟩
    dsimp only [gName]
    refine ⟨_, rfl, ma, _, _, .ref va, rfl, rfl, .of e1, atI_nat (j := 2) rfl, ?_⟩
    dsimp only [gName]
    obtain ⟨y1, y2⟩ := yAt p (Same.refl H) hp
    obtain ⟨y3, y4⟩ := yAt q (Same.refl H) hq
    refine ⟨_, rfl, _, rfl, ya, _, _, _, rfl, rfl, y1, y2, _, rfl, _, rfl, ya, _, _, _, rfl, rfl, y3, y4, rfl, _, rfl, ?_⟩
    refine ite2 (fun z => ?_) (fun z => ?_)
    · refine ⟨by decide, fun R hR => kS R [] _ hR (Same.new hR) upd_same (by decide) (least_nil fun e => ?_)⟩
      have e' : bs.getD p false = bs.getD q false := e
      rw [e'] at z; simp at z
    have eq0 : bs.getD p false = bs.getD q false := by
      cases h1 : bs.getD p false <;> cases h2 : bs.getD q false <;> rw [h1, h2] at z <;> first | rfl | exact absurd (by decide) z
    refine ⟨_, rfl, _, bs.length, rfl, .inr ⟨_, .of e2, by rw [List.length_map]⟩, bs.length, rfl, by omega, fun hd hhd => ?_⟩
    rw [range_cast]
    have shd := Same.new (o := .lst ((castI (List.range bs.length)).map V.int)) hhd
    dsimp only [gName]
    refine ⟨_, rfl, _, rfl, _, rfl, hd, _, _, p, rfl, rfl, upd_same, ixN_at (by rw [List.length_map, castI_len, List.length_range]; exact hp), ?_⟩
    rw [castI_put]
    have s1 : Same H (upd (upd H hd (.lst ((castI (List.range bs.length)).map V.int))) hd (.lst ((castI ((List.range bs.length).set p q)).map V.int))) := shd.kbn hhd KB.write
    have h1 : (upd (upd H hd (.lst ((castI (List.range bs.length)).map V.int))) hd (.lst ((castI ((List.range bs.length).set p q)).map V.int))) hd = some (.lst ((castI ((List.range bs.length).set p q)).map V.int)) := upd_same
    generalize upd (upd H hd (.lst ((castI (List.range bs.length)).map V.int))) hd (.lst ((castI ((List.range bs.length).set p q)).map V.int)) = H1 at s1 h1 ⊢
    refine ⟨_, rfl, _, rfl, by decide, fun L0 hL0 => ⟨by show 3 ≤ sizeLine; omega, fun q0 hq0 => ⟨by show 1 ≤ sizeLine; omega, fun M hM => ?_⟩⟩⟩
    have sL0 := Same.new (o := .lst []) hL0
    have sq0 := Same.new (o := .tup [.int (p : Nat), .int (q : Nat), .ref L0]) hq0
    have sM := Same.new (o := .lst [.ref q0]) hM
    have s2 := s1.trans ((sL0.trans sq0).trans sM)
    have hM0 : H M = none := (s1.trans (sL0.trans sq0)).free hM
    have nhM : hd ≠ M := ne_of_none ((sL0.trans sq0) _ _ h1) hM
    have nL0h : L0 ≠ hd := (ne_of_none h1 hL0).symm
    have l02 := sM _ _ (sq0 _ _ (show (upd H1 L0 (.lst [])) L0 = some (.lst []) from upd_same))
    have nL0M : L0 ≠ M := ne_of_none (sq0 _ _ (show (upd H1 L0 (.lst [])) L0 = some (.lst []) from upd_same)) hM
    have h2 := ((sL0.trans sq0).trans sM) _ _ h1
    have q02 := sM _ _ (show (upd (upd H1 L0 (.lst [])) q0 (.tup [.int (p : Nat), .int (q : Nat), .ref L0])) q0 = some (.tup [.int (p : Nat), .int (q : Nat), .ref L0]) from upd_same)
    have m2 : (upd (upd (upd H1 L0 (.lst [])) q0 (.tup [.int (p : Nat), .int (q : Nat), .ref L0])) M (.lst [.ref q0])) M = some (.lst [.ref q0]) := upd_same
    dsimp only [tSeq, tAsg, tC, gName]
    generalize upd (upd (upd H1 L0 (.lst [])) q0 (.tup [.int (p : Nat), .int (q : Nat), .ref L0])) M (.lst [.ref q0]) = H2 at s2 l02 h2 q02 m2 ⊢
    refine whileM (fun m σ H' => ∃ (t : Nat) (ws : List (List Nat)) (qs : List Addr) (hs : List Nat) (cl dp : Nat → Nat) (v8 v9 v10 v11 : Option V), m = bs.length * bs.length - t ∧ σ = [some (.ref ma), some (.int (p : Nat)), some (.int (q : Nat)), some (.ref ya), some (.ref va), some (.ref hd), some (.ref M), some (.int (t : Nat)), v8, v9, v10, v11] ∧ t ≤ ws.length ∧
        Bfs B (lang bs mv p) (lang bs mv q) ws t 0 ∧ Snd bs.length (prsOf mv p q ws) cl ∧ (∀ x ∈ ws, cl (run mv p x) = cl (run mv q x)) ∧ (prsOf mv p q ws).Nodup ∧ (∀ x ∈ ws, lang bs mv p x = lang bs mv q x) ∧ (∀ x ∈ ws, x.length < ws.length) ∧ Same H H' ∧ H' hd = some (.lst ((castI hs).map V.int)) ∧ Fo bs.length hs cl dp ∧ H' M = some (.lst (qs.map V.ref)) ∧ Mets mv p q hd M H' qs ws)
      ⟨_, 0, [[]], [q0], _, _, _, none, none, none, none, rfl, rfl, Nat.zero_le _, Bfs.start, Snd.begin, fun x hx => ?_, by simp [prsOf], fun x hx => by rw [List.mem_singleton.mp hx]; exact eq0, fun x hx => by rw [List.mem_singleton.mp hx]; decide, s2, h2, Fo.begin hp hq, m2, .cons ⟨L0, q02, l02, nL0h, nL0M⟩ .nil⟩ ?_ ?_
    · rw [List.mem_singleton.mp hx]
      show (if p = p then q else p) = if q = p then q else q
      rw [if_pos rfl]
      split <;> rfl
    · rintro m σ H3 ⟨t, ws, qs, hs, cl, dp, v8, v9, v10, v11, rfl, rfl, ht, bf, sn, cm, nd, ag, ln, s3, h3, fo, m3, mt⟩
      have lq : qs.length = ws.length := Paired.length mt
      have lw := prs_len mvs hp hq bf.word nd
      refine ⟨_, rfl, _, rfl, _, qs.length, rfl, .inl ⟨_, .of m3, by rw [List.length_map]⟩, _, _, rfl, rfl, _, rfl, ?_⟩
      refine ite2 (fun z => ?_) (fun z => ?_)
      · have hlt : t < ws.length := by have := of_decide_eq_true z; omega
        have eu := item_at [] hlt
        generalize ws.getD t [] = u at eu
        have hwu := bf.word u (List.mem_of_getElem? eu)
        have lu := ln u (List.mem_of_getElem? eu)
        have eqa := item_at 0 (show t < qs.length by omega)
        generalize qs.getD t 0 = qa at eqa
        have hx := mvs.run hp hwu
        have hy := mvs.run hq hwu
        refine ⟨_, rfl, _, rfl, M, _, _, .ref qa, rfl, rfl, .of m3, atI_nat (by rw [List.getElem?_map, eqa]; rfl), ?_⟩
        dsimp only [gName]
        obtain ⟨w1, w2, w3⟩ := mvs.row tp (show 0 < bs.length by omega)
        refine ⟨_, rfl, va, _, _, .ref (ps.getD 0 0), rfl, rfl, .of (s3 _ _ e3), atI_nat (j := 0) (by rw [List.getElem?_map, w1]; rfl), _, B, rfl, .inr ⟨_, .of (s3 _ _ w2), by rw [List.length_map, castI_len, w3]⟩, _, rfl, by omega, by omega, for_range (n := (B : Int).toNat) (fun l σ H' => ∃ (new : List (List Nat)) (nq : List Addr) (hs : List Nat) (cl dp : Nat → Nat) (v9 v10 v11 : Option V), σ = [some (.ref ma), some (.int (p : Nat)), some (.int (q : Nat)), some (.ref ya), some (.ref va), some (.ref hd), some (.ref M), some (.int (t : Nat)), some (.ref qa), v9, v10, v11] ∧
            Bfs B (lang bs mv p) (lang bs mv q) (ws ++ new) t l ∧ Snd bs.length (prsOf mv p q (ws ++ new)) cl ∧ (∀ x ∈ ws ++ new, cl (run mv p x) = cl (run mv q x)) ∧ (prsOf mv p q (ws ++ new)).Nodup ∧ (∀ x ∈ ws ++ new, lang bs mv p x = lang bs mv q x) ∧ (∀ x ∈ ws ++ new, x.length < (ws ++ new).length) ∧ Same H H' ∧ H' hd = some (.lst ((castI hs).map V.int)) ∧ Fo bs.length hs cl dp ∧ H' M = some (.lst ((qs ++ nq).map V.ref)) ∧ Mets mv p q hd M H' (qs ++ nq) (ws ++ new))
          ⟨[], [], hs, cl, dp, v9, v10, v11, rfl, by rw [List.append_nil]; exact bf, by rw [List.append_nil]; exact sn, by rw [List.append_nil]; exact cm, by rw [List.append_nil]; exact nd, by rw [List.append_nil]; exact ag, by rw [List.append_nil]; exact ln, s3, h3, fo, by rw [List.append_nil]; exact m3, by rw [List.append_nil, List.append_nil]; exact mt⟩ ?_ ?_⟩
        · rintro l σ H4 hl ⟨new, nq, hs, cl, dp, v9, v10, v11, rfl, bf, sn, cm, nd, ag, ln, s4, h4, fo, m4, mt⟩
          rw [Int.toNat_natCast] at hl
          have lw := prs_len mvs hp hq bf.word nd
          have lqs : (qs ++ nq).length = (ws ++ new).length := Paired.length mt
          have eu' : (ws ++ new)[t]? = some u := by rw [List.getElem?_append_left hlt]; exact eu
          obtain ⟨w', hw', L, a1, a2, a3, a4⟩ := paired_get mt (show (qs ++ nq)[t]? = some qa by rw [List.getElem?_append_left (by omega)]; exact eqa)
          have : w' = u := Option.some.inj (hw'.symm.trans eu')
          subst this
          obtain ⟨x1, x2, x3, x4⟩ := mAt _ l s4 hx hl
          obtain ⟨z1, z2, z3, z4⟩ := mAt _ l s4 hy hl
          have r1 : run mv p (w' ++ [l]) = stp mv (run mv p w') l := by rw [run_app]; rfl
          have r2 : run mv q (w' ++ [l]) = stp mv (run mv q w') l := by rw [run_app]; rfl
          have hle := mvs.stp hx hl
          have hri := mvs.stp hy hl
          refine ⟨_, rfl, _, rfl, qa, _, _, _, rfl, rfl, .of a1, atI_nat (j := 0) rfl, va, _, _, _, rfl, rfl, x1, x2, _, rfl, _, _, _, _, rfl, rfl, x3, x4, ?_⟩
          dsimp only [gName]
          refine ⟨_, rfl, _, rfl, qa, _, _, _, rfl, rfl, .of a1, atI_nat (j := 1) rfl, va, _, _, _, rfl, rfl, z1, z2, _, rfl, _, _, _, _, rfl, rfl, z3, z4, ?_⟩
          dsimp only [gName]
          rw [← r1, ← r2] at *
          generalize hle' : run mv p (w' ++ [l]) = lf at hle
          generalize hri' : run mv q (w' ++ [l]) = rt at hri
          obtain ⟨y1, y2⟩ := yAt lf s4 hle
          obtain ⟨y3, y4⟩ := yAt rt s4 hri
          refine ⟨_, rfl, _, rfl, ya, _, _, _, rfl, rfl, y1, y2, _, rfl, _, rfl, ya, _, _, _, rfl, rfl, y3, y4, rfl, _, rfl, ?_⟩
          have ei : (0 : Int) + (l : Int) = (l : Int) := by omega
          have lang1 : lang bs mv p (w' ++ [l]) = bs.getD lf false := by unfold lang; rw [hle']
          have lang2 : lang bs mv q (w' ++ [l]) = bs.getD rt false := by unfold lang; rw [hri']
          have lu' := ln w' (List.mem_of_getElem? eu')
          refine ite2 (fun zz => ?_) (fun zz => ?_)
          · refine ⟨_, rfl, qa, _, _, .ref L, rfl, rfl, .of a1, atI_nat (j := 2) rfl, _, rfl, by show 1 ≤ sizeLine; omega, fun Z hZ => ?_⟩
            have sZ := Same.new (o := .lst [.int (0 + (l : Int))]) hZ
            refine ⟨L, Z, _, _, rfl, rfl, sZ _ _ a2, upd_same, by rw [List.length_map, castI_len]; show _ + 1 ≤ _; omega, fun R hR => ?_⟩
            have sR := Same.new (o := .lst ((castI w').map V.int ++ [.int (0 + (l : Int))])) hR
            refine kS R (w' ++ [l]) _ ((s4.trans sZ).free hR) ((s4.trans sZ).trans sR) ?_ (by rw [List.length_append]; show _ + 1 ≤ _; omega) ⟨hwu.app (.cons hl (.nil _)), ?_, bf.here hB0 eu' hl ag⟩
            · rw [upd_same, castI_app, List.map_append, ei]; rfl
            · rw [lang1, lang2]
              intro e
              rw [e] at zz; simp at zz
          have ey : bs.getD lf false = bs.getD rt false := by
            cases h1 : bs.getD lf false <;> cases h2 : bs.getD rt false <;> rw [h1, h2] at zz <;> first | rfl | exact absurd (by decide) zz
          refine ⟨_, rfl, _, rfl, hd, hs, bs.length, cl, dp, lf, rfl, h4, fo, hle, fun hs1 H5 k5 h5 fo1 => ?_⟩
          refine ⟨_, rfl, _, rfl, hd, hs1, bs.length, cl, dp, rt, rfl, h5, fo1, hri, fun hs2 H6 k6 h6 fo2 => ⟨rfl, _, rfl, ?_⟩⟩
          have hhd0 : H hd = none := hhd
          have k46 := k5.trans k6
          have s6 := s4.kbn hhd0 k46
          have m6 := k46 _ _ m4 nhM.symm
          have mt6 := mt.keep (fun b o e n1 _ => k46 b o e n1) ⟨_, h4⟩ ⟨_, m4⟩
          refine ite2 (fun zc => ?_) (fun zc => ?_)
          · have hne : cl lf ≠ cl rt := fun e => by rw [e] at zc; simp at zc
            refine ⟨_, rfl, _, rfl, hd, hs2, bs.length, cl, dp, rt, rfl, h6, fo2, hri, fun hs3 H7 k7 h7 fo3 => ?_⟩
            refine ⟨_, rfl, _, rfl, _, rfl, hd, hs3, bs.length, cl, dp, lf, rfl, h7, fo3, hle, fun hs4 H8 k8 h8 fo4 => ?_⟩
            refine ⟨hd, _, _, cl lf, rfl, rfl, h8, ixN_at (by rw [List.length_map, castI_len, fo4.len]; exact (fo4.root lf hle).1), ?_⟩
            rw [castI_put]
            obtain ⟨dp', fo5⟩ := fo4.join hle hri hne
            have k69 : KB hd H6 (upd H8 hd (.lst ((castI (hs4.set (cl lf) (cl rt))).map V.int))) := (k7.trans k8).trans KB.write
            have h9 : (upd H8 hd (.lst ((castI (hs4.set (cl lf) (cl rt))).map V.int))) hd = some (.lst ((castI (hs4.set (cl lf) (cl rt))).map V.int)) := upd_same
            generalize upd H8 hd (.lst ((castI (hs4.set (cl lf) (cl rt))).map V.int)) = H9 at k69 h9 ⊢
            have s9 := s6.kbn hhd0 k69
            have m9 := k69 _ _ m6 nhM.symm
            have mt9 := mt6.keep (fun b o e n1 _ => k69 b o e n1) ⟨_, h6⟩ ⟨_, m6⟩
            have k49 := k46.trans k69
            have a1' := k49 _ _ a1 (fun y => by rw [y, h4] at a1; cases a1)
            have a2' := k49 _ _ a2 a3
            refine ⟨_, rfl, .inl ⟨rfl, _, .of m9⟩, _, rfl, _, rfl, _, rfl, qa, _, _, .ref L, rfl, rfl, .of a1', atI_nat (j := 2) rfl, _, rfl, by show 1 ≤ sizeLine; omega, fun Z hZ => ?_⟩
            have sZ := Same.new (o := .lst [.int (0 + (l : Int))]) hZ
            refine ⟨L, Z, _, _, rfl, rfl, sZ _ _ a2', upd_same, by rw [List.length_map, castI_len]; show _ + 1 ≤ _; omega, fun R hR => ?_⟩
            have sR := Same.new (o := .lst ((castI w').map V.int ++ [.int (0 + (l : Int))])) hR
            refine ⟨by show 3 ≤ sizeLine; omega, fun qn hqn => ?_⟩
            have sqn := Same.new (o := .tup [.int (lf : Nat), .int (rt : Nat), .ref R]) hqn
            have sA := (sZ.trans sR).trans sqn
            have m10 := sA _ _ m9
            have h10 := sA _ _ h9
            have r10 := sqn _ _ (show (upd (upd H9 Z (.lst [.int (0 + (l : Int))])) R (.lst ((castI w').map V.int ++ [.int (0 + (l : Int))]))) R = some (.lst ((castI w').map V.int ++ [.int (0 + (l : Int))])) from upd_same)
            have nRh : R ≠ hd := (ne_of_none (sZ _ _ h9) hR).symm
            have nRM : R ≠ M := (ne_of_none (sZ _ _ m9) hR).symm
            have mt10 := mt9.keep (fun b o e _ _ => sA b o e) ⟨_, h9⟩ ⟨_, m9⟩
            have s10 := s9.trans sA
            have q10 : (upd (upd (upd H9 Z (.lst [.int (0 + (l : Int))])) R (.lst ((castI w').map V.int ++ [.int (0 + (l : Int))]))) qn (.tup [.int (lf : Nat), .int (rt : Nat), .ref R])) qn = some (.tup [.int (lf : Nat), .int (rt : Nat), .ref R]) := upd_same
            have nqM : qn ≠ M := fun y => by rw [← y, q10] at m10; cases m10
            refine ⟨M, _, _, rfl, rfl, m10, by rw [List.length_map]; omega, new ++ [w' ++ [l]], nq ++ [qn], _, _, dp', _, _, _, rfl, ?_, ?_, fun x hx' => ?_, ?_, fun x hx' => ?_, fun x hx' => ?_, s10.kbn hM0 KB.write, by rw [upd_ne nhM]; exact h10, fo5, ?_, ?_⟩
            · rw [← List.append_assoc]; exact bf.add eu' hl
            · rw [← List.append_assoc, prsOf, List.map_append]
              have := sn.join hle hri
              rw [show List.map (fun w => (run mv p w, run mv q w)) [w' ++ [l]] = [(lf, rt)] by rw [List.map_cons, hle', hri']; rfl]
              exact this
            · rw [← List.append_assoc] at hx'
              show (if cl (run mv p x) = cl lf then cl rt else cl (run mv p x)) = if cl (run mv q x) = cl lf then cl rt else cl (run mv q x)
              rcases List.mem_append.mp hx' with y | y
              · rw [cm x y]
              · rw [List.mem_singleton.mp y, hle', hri', if_pos rfl]
                split <;> rfl
            · rw [← List.append_assoc, prsOf, List.map_append]
              refine nodup_snoc nd fun hin => ?_
              obtain ⟨x, hx1, hx2⟩ := List.mem_map.mp hin
              have hx2 : (run mv p x, run mv q x) = (run mv p (w' ++ [l]), run mv q (w' ++ [l])) := hx2
              rw [hle', hri'] at hx2
              injection hx2 with g1 g2
              have := cm x hx1
              rw [g1, g2] at this
              exact hne this
            · rw [← List.append_assoc] at hx'
              rcases List.mem_append.mp hx' with y | y
              · exact ag x y
              · rw [List.mem_singleton.mp y, lang1, lang2, ey]
            · rw [← List.append_assoc] at hx' ⊢
              rw [List.length_append]
              rcases List.mem_append.mp hx' with y | y
              · have := ln x y; show _ < _ + 1; omega
              · rw [List.mem_singleton.mp y, List.length_append]; show _ + 1 < _ + 1; omega
            · rw [upd_same, ← List.append_assoc, List.map_append (l₁ := qs ++ nq)]; rfl
            · rw [← List.append_assoc, ← List.append_assoc]
              have kM : ∀ b o, (upd (upd (upd H9 Z (.lst [.int (0 + (l : Int))])) R (.lst ((castI w').map V.int ++ [.int (0 + (l : Int))]))) qn (.tup [.int (lf : Nat), .int (rt : Nat), .ref R])) b = some o → b ≠ M → (upd (upd (upd (upd H9 Z (.lst [.int (0 + (l : Int))])) R (.lst ((castI w').map V.int ++ [.int (0 + (l : Int))]))) qn (.tup [.int (lf : Nat), .int (rt : Nat), .ref R])) M (.lst ((qs ++ nq).map V.ref ++ [.ref qn]))) b = some o := fun b o e n => by rw [upd_ne n]; exact e
              refine paired_append (mt10.keep (fun b o e _ n2 => kM b o e n2) ⟨_, h10⟩ ⟨_, m10⟩) (.cons ⟨R, ?_, ?_, nRh, nRM⟩ .nil)
              · rw [hle', hri']; exact kM _ _ q10 nqM
              · rw [kM _ _ r10 nRM, castI_app, List.map_append, ei]; rfl
          · have he : cl lf = cl rt := by
              by_cases e : cl lf = cl rt
              · exact e
              · exfalso
                apply zc
                rw [decide_eq_false (fun q => e (by injection q with q; omega))]
                rfl
            exact ⟨new, nq, hs2, cl, dp, _, _, _, rfl, bf.skip eu' (prn_snd (n := bs.length) bf eu' sn (by rw [hle']; exact hle) (by rw [hri']; exact hri) (by rw [hle', hri']; exact he)), sn, cm, nd, ag, ln, s6, h6, fo2, m6, mt6⟩
        · rintro σ H4 ⟨new, nq, hs, cl, dp, v9, v10, v11, rfl, bf, sn, cm, nd, ag, ln, s4, h4, fo, m4, mt⟩
          rw [Int.toNat_natCast] at bf
          have lw := prs_len mvs hp hq bf.word nd
          rw [List.length_append] at lw
          refine ⟨_, rfl, _, _, rfl, rfl, bs.length * bs.length - (t + 1), by omega, t + 1, ws ++ new, qs ++ nq, hs, cl, dp, some (.ref qa), v9, v10, v11, rfl, ?_, by rw [List.length_append]; omega, bf.next (by rw [List.length_append]; omega), sn, cm, nd, ag, ln, s4, h4, fo, m4, mt⟩
          rw [Int.natCast_add]; rfl
      · have hge : ¬ t < ws.length := fun hh => z (decide_eq_true (by omega))
        exact kN H3 s3 (bf.all hB0 (by omega) ag)
    · rintro σ H Q Q' hQ ⟨v1, q1, v2, q2, y1, k1, q3, q4, i1, j1, q5, q6, b1, q7, q⟩
      exact ⟨v1, q1, v2, q2, y1, k1, q3, q4, i1, j1, q5, q6, b1, q7, hQ _ _ q⟩
end
end My
set_option Elab.async false
set_option linter.all false
set_option maxRecDepth 100000
set_option maxHeartbeats 4000000
namespace My
open PySem L2
theorem valV_keys {α κ : Type} [DecidableEq κ] [DecidableEq α] {key : α → κ} (inj : ∀ a b, key a = key b → a = b) (x : α) : ∀ xs : List α, valV (xs.map fun y => (key y, V.bl true)) (key x) = if x ∈ xs then some (.bl true) else none
  | [] => by simp [valV]
  | y :: xs => by
    rw [List.map_cons]
    by_cases e : key y = key x
    · rw [valV_pos e, if_pos (by rw [inj _ _ e]; exact List.mem_cons_self)]
    · rw [valV_neg e, valV_keys inj x xs]
      have hne : x ≠ y := fun z => e (by rw [z])
      by_cases h : x ∈ xs
      · rw [if_pos h, if_pos (List.mem_cons_of_mem _ h)]
      · rw [if_neg h, if_neg (fun z => (List.mem_cons.mp z).elim hne h)]
def kI (x : Nat) : Key := Sum.inl (x : Int)
def seenI (xs : List Nat) : List (Key × V) := xs.map fun y => (kI y, V.bl true)
theorem seenI_at (x : Nat) (xs : List Nat) : valV (seenI xs) (kI x) = if x ∈ xs then some (.bl true) else none := valV_keys (key := kI) num_inj x xs
theorem seenI_put {xs : List Nat} {x : Nat} (h : x ∉ xs) : putK (seenI xs) (kI x) (.bl true) = seenI (xs ++ [x]) := by
  rw [putK_new _ (by rw [seenI_at, if_neg h]), seenI, seenI, List.map_append]
  rfl
theorem row_step {row : List Nat} {s s' t j : Nat} (h : rowGo (row.take (j + 1)) s = some s') (e : row[j]? = some t) : ∃ s0, rowGo (row.take j) s = some s0 ∧ (t < s0 ∧ s' = s0 ∨ t = s0 ∧ s' = s0 + 1) := by
  rw [take_snoc e, rowGo_app] at h
  cases h0 : rowGo (row.take j) s with
  | none => rw [h0] at h; cases h
  | some s0 =>
    rw [h0] at h
    have h' : (if t < s0 then some s0 else if t = s0 then some (s0 + 1) else none) = some s' := h
    refine ⟨s0, rfl, ?_⟩
    by_cases a : t < s0
    · rw [if_pos a] at h'; exact .inl ⟨a, (Option.some.inj h').symm⟩
    · rw [if_neg a] at h'
      by_cases b : t = s0
      · rw [if_pos b] at h'; exact .inr ⟨b, (Option.some.inj h').symm⟩
      · rw [if_neg b] at h'; cases h'
theorem row_pre {row : List Nat} {s s' : Nat} (h : rowGo row s = some s') : ∀ (k j : Nat), j + k = row.length → ∃ s0, rowGo (row.take j) s = some s0
  | 0, j, e => ⟨s', by rw [List.take_of_length_le (by omega)]; exact h⟩
  | k + 1, j, e => by
    obtain ⟨s1, h1⟩ := row_pre h k (j + 1) (by omega)
    obtain ⟨s0, h0, _⟩ := row_step h1 (item_at 0 (show j < row.length by omega))
    exact ⟨s0, h0⟩
theorem rows_step {mv : List (List Nat)} {s' i : Nat} {row : List Nat} (h : rowsGo (mv.take (i + 1)) 0 1 = some s') (e : mv[i]? = some row) : ∃ s0, rowsGo (mv.take i) 0 1 = some s0 ∧ i < s0 ∧ rowGo row s0 = some s' := by
  have hi := (List.getElem?_eq_some_iff.mp e).1
  rw [take_snoc e, rowsGo_app] at h
  cases h0 : rowsGo (mv.take i) 0 1 with
  | none => rw [h0] at h; cases h
  | some s0 =>
    rw [h0] at h
    have h' : (if 0 + (mv.take i).length < s0 then rowGo row s0 else none) = some s' := h
    rw [List.length_take, Nat.min_eq_left (by omega), Nat.zero_add] at h'
    by_cases c : i < s0
    · rw [if_pos c] at h'; exact ⟨s0, rfl, c, h'⟩
    · rw [if_neg c] at h'; cases h'
theorem rows_pre {mv : List (List Nat)} {n : Nat} (h : rowsGo mv 0 1 = some n) : ∀ (k i : Nat), i + k = mv.length → ∃ s0, rowsGo (mv.take i) 0 1 = some s0 ∧ s0 ≤ n
  | 0, i, e => ⟨n, by rw [List.take_of_length_le (by omega)]; exact h, Nat.le_refl _⟩
  | k + 1, i, e => by
    obtain ⟨s1, h1, h2⟩ := rows_pre h k (i + 1) (by omega)
    obtain ⟨s0, h0, _, h3⟩ := rows_step h1 (item_at [] (show i < mv.length by omega))
    exact ⟨s0, h0, Nat.le_trans (rowGo_le h3) h2⟩
def spCame : Sp := fun vs H Q _ => ∃ (va : Addr) (ps : List Addr) (mv : List (List Nat)) (n B : Nat), vs = [.ref va] ∧ H va = some (.tup (ps.map V.ref)) ∧ Tups H ps (mv.map castI) ∧ Moves n B mv ∧ rowsGo mv 0 1 = some n ∧ 0 < n ∧ n ≤ 1000 ∧
  ∀ (D : Addr) (H' : Hp), Same H H' → H' D = some (.lst ((castI (List.range n)).map V.int)) → Q (.ref D) H'
theorem castI_range_snoc (s : Nat) : (castI (List.range s)).map V.int ++ [.int (s : Nat)] = (castI (List.range (s + 1))).map V.int := by
  rw [List.range_succ, castI_app, List.map_append]; rfl
section
variable {P : Program} {w : World} {K : PySem.W.Frag} {mg : Str → Option Value} {base : Heap}
theorem sc_l_came : FnScope ["_law_moves", "_law_found", "_law_seen", "_law_at", "_law_goal"] ["_law_moves"] (defScope s_l_came) := ⟨rfl, rfl, rfl, by decide +kernel, rfl, by decide +kernel, by decide +kernel⟩
theorem ok_l_came {a : Adr} (T : Txt K mg a) : FnOk P w K mg base CX0 1 a.f_l_came a.fd_l_came ["_law_moves"] spCame := by
  refine T.F_l_came.ok sc_l_came (fun vs H Q E h => ?_) (fun cdv A outer s H vs Q E hr h => ?_)
  · obtain ⟨va, ps, mv, n, B, rfl, _⟩ := h
    rfl
  · obtain ⟨va, ps, mv, n, B, rfl, ev, tp, mvs, hgo, n0, n1, k⟩ := h
    refine ⟨_, (pss_cons (ps_set (i := 1) sc_l_came.nd rfl (Or.inl rfl) (pe_lst (pa_cons pe_int pa_nil)))
    (pss_cons (ps_set (i := 2) sc_l_came.nd rfl (Or.inl rfl) (pe_disp (pps_cons pe_int pe_bl pps_nil) rfl rfl (fun z => nomatch z) (by decide)))
    (pss_cons (ps_set (i := 3) sc_l_came.nd rfl (Or.inl rfl) pe_int)
    (pss_cons (ps_while PassesOwn.never (pt_cmpR op_lt (pv 3) (pe_callB (call_lenK K) (by rfl) T.z_len bt_len (pa_cons (pv 1) pa_nil)) (nomark _))
      (pss_cons (ps_for PassesOwn.never rfl (pi_tup (pe_ix (ix_tupK K) (pv 0) (pe_ix (ix_listK K) (pv 1) (pv 3) (fun _ _ => rfl)) (fun _ _ => rfl))) (pg_name (i := 4) sc_l_came.nd rfl (Or.inl rfl))
        (pss_one (ps_if (pt_cmp (pc_dnotin (hu_of hr) (pv 4) (pv 2)) (by with_unfolding_all rfl))
          (pss_cons (ps_dput (hu_of hr) (pv 2) (pv 4) pe_bl rfl)
          (pss_one (ps_expr (pe_bm PySem.F.plainAttrs_list PySem.F.slot_list_append PySem.F.type_list_append mt_append (pv 1) (pa_cons (pv 4) pa_nil)))))
          pss_nil)))
      (pss_one (ps_set (i := 3) sc_l_came.nd rfl (Or.inl rfl) (pe_op op_add (pv 3) pe_int)))))
    (pss_one (ps_ret (pv 1))))))), ?_⟩
    have big : (10000 : Nat) ≤ sizeLine := by decide
    refine ⟨by show 1 ≤ sizeLine; omega, fun F hF => ?_⟩
    have sF := Same.new (o := .lst [.int 0]) hF
    dsimp only [gName]
    refine fun D hD => ⟨upd_same, [(kI 0, .bl true)], rfl, (show 1 ≤ 15 by decide), ?_⟩
    have sD : Same (upd H F (.lst [.int 0])) (upd (upd (upd H F (.lst [.int 0])) D (.dK [])) D (.dK (mergeK [] [(kI 0, .bl true)]))) := (Same.new hD).kbn hD KB.write
    have hD0 : H D = none := sF.free hD
    have nFD : F ≠ D := ne_of_none (o := .lst [.int 0]) upd_same hD
    have s1 := sF.trans sD
    have f1 := sD _ _ (show (upd H F (.lst [.int 0])) F = some (.lst [.int 0]) from upd_same)
    have g1 : (upd (upd (upd H F (.lst [.int 0])) D (.dK [])) D (.dK (mergeK [] [(kI 0, .bl true)]))) D = some (.dK (seenI (List.range 1))) := upd_same
    dsimp only [tSeq, tAsg, tC, gName]
    generalize upd (upd (upd H F (.lst [.int 0])) D (.dK [])) D (.dK (mergeK [] [(kI 0, .bl true)])) = H1 at s1 f1 g1 ⊢
    refine whileM (fun m σ H' => ∃ (i s : Nat) (v4 : Option V), m = n - i ∧ σ = [some (.ref va), some (.ref F), some (.ref D), some (.int (i : Nat)), v4] ∧ i ≤ n ∧ rowsGo (mv.take i) 0 1 = some s ∧ s ≤ n ∧ Same H H' ∧ H' F = some (.lst ((castI (List.range s)).map V.int)) ∧ H' D = some (.dK (seenI (List.range s))))
      ⟨_, 0, 1, none, rfl, rfl, Nat.zero_le _, rfl, by omega, s1, f1, g1⟩ ?_ ?_
    · rintro m σ H2 ⟨i, s, v4, rfl, rfl, hi, hs, hsn, s2, f2, g2⟩
      refine ⟨_, rfl, _, rfl, _, s, rfl, .inl ⟨_, .of f2, by rw [List.length_map, castI_len, List.length_range]⟩, _, _, rfl, rfl, _, rfl, ?_⟩
      refine ite2 (fun z => ?_) (fun z => ?_)
      · have his : i < s := by have := of_decide_eq_true z; omega
        have hin : i < n := by omega
        obtain ⟨s1', h1', h2'⟩ := rows_pre hgo (n - (i + 1)) (i + 1) (by rw [mvs.len]; omega)
        have erow := item_at [] (show i < mv.length by rw [mvs.len]; exact hin)
        obtain ⟨s0, h0, _, h3⟩ := rows_step h1' erow
        have : s0 = s := Option.some.inj (h0.symm.trans hs)
        subst this
        obtain ⟨w1, w2, w3⟩ := mvs.row tp hin
        refine ⟨_, rfl, _, rfl, _, rfl, F, _, _, .int (i : Nat), rfl, rfl, .of f2, atI_nat (by rw [castI_item (by rw [List.length_range]; exact his), range_getD his]), va, _, _, .ref (ps.getD i 0), rfl, rfl, .of (s2 _ _ ev), atI_nat (by rw [List.getElem?_map, w1]; rfl), _, rfl, ⟨_, .of (s2 _ _ w2)⟩, for_tup (xs := (castI (mv.getD i [])).map V.int) (fun j σ H' => ∃ (s : Nat) (v4 : Option V), σ = [some (.ref va), some (.ref F), some (.ref D), some (.int (i : Nat)), v4] ∧ rowGo ((mv.getD i []).take j) s0 = some s ∧ Same H H' ∧ H' F = some (.lst ((castI (List.range s)).map V.int)) ∧ H' D = some (.dK (seenI (List.range s))))
          ⟨s0, v4, rfl, rfl, s2, f2, g2⟩ (fun j σ H' _ ⟨_, _, _, _, s', _⟩ => .of (s' _ _ w2)) ?_ ?_⟩
        · rintro j x σ H3 hx ⟨s, v4, rfl, hrow, s3, f3, g3⟩
          obtain ⟨t, rfl, et⟩ := natItem hx
          have hj := (List.getElem?_eq_some_iff.mp et).1
          obtain ⟨s5, h5⟩ := row_pre h3 _ (j + 1) (Nat.add_sub_of_le hj)
          obtain ⟨s6, h6, alt⟩ := row_step h5 et
          have : s6 = s := Option.some.inj (h6.symm.trans hrow)
          subst this
          have htn : t < n := (mvs.lead _ (List.mem_of_getElem? erow)).2 t (List.mem_of_getElem? et)
          rcases alt with ⟨lt, rfl⟩ | ⟨rfl, rfl⟩
          · exact ⟨_, rfl, _, rfl, D, some (.bl true), rfl, .inl ⟨_, kI t, .inl g3, rfl, by rw [seenI_at, if_pos (List.mem_range.mpr lt)]⟩, _, rfl, iteF ⟨_, _, rfl, h5, s3, f3, g3⟩⟩
          · have hn : t ∉ List.range t := fun h => absurd (List.mem_range.mp h) (Nat.lt_irrefl _)
            refine ⟨_, rfl, _, rfl, D, none, rfl, .inl ⟨_, kI t, .inl g3, rfl, by rw [seenI_at, if_neg hn]⟩, _, rfl, iteT ?_⟩
            refine ⟨_, rfl, _, rfl, D, _, rfl, .inl ⟨_, kI t, g3, rfl, by rw [seenI, List.length_map, List.length_range]; omega, rfl⟩, ?_⟩
            rw [seenI_put hn, ← List.range_succ]
            have f4 : (upd H3 D (.dK (seenI (List.range (t + 1))))) F = some (.lst ((castI (List.range t)).map V.int)) := by rw [upd_ne nFD]; exact f3
            refine ⟨_, rfl, .inl ⟨rfl, _, .of f4⟩, _, rfl, F, _, _, rfl, rfl, f4, by rw [List.length_map, castI_len, List.length_range]; omega, t + 1, _, rfl, h5, (s3.kbn hD0 KB.write).kbn hF KB.write, ?_, by rw [upd_ne nFD.symm, upd_same]⟩
            rw [upd_same, castI_range_snoc]
        · rintro σ H3 ⟨s, v4, rfl, hrow, s3, f3, g3⟩
          rw [List.length_map, castI_len, List.take_length, h3] at hrow
          have := Option.some.inj hrow
          subst this
          refine ⟨_, rfl, _, _, rfl, rfl, n - (i + 1), by omega, i + 1, s1', v4, rfl, ?_, by omega, h1', h2', s3, f3, g3⟩
          rw [Int.natCast_add]; rfl
      · have hge : ¬ i < s := fun hh => z (decide_eq_true (by omega))
        have hin : i = n := by
          rcases Nat.lt_or_ge i n with y | y
          · obtain ⟨s1', h1', h2'⟩ := rows_pre hgo (n - (i + 1)) (i + 1) (by rw [mvs.len]; omega)
            obtain ⟨s0, h0, h4, _⟩ := rows_step h1' (item_at [] (show i < mv.length by rw [mvs.len]; exact y))
            have : s0 = s := Option.some.inj (h0.symm.trans hs)
            omega
          · omega
        have : s = n := by
          rw [hin, List.take_of_length_le (by rw [mvs.len]; omega), hgo] at hs
          exact (Option.some.inj hs).symm
        subst this
        exact ⟨_, rfl, k F H2 s2 f2⟩
    · rintro σ H Q Q' hQ ⟨v1, q1, v2, q2, y1, k1, q3, q4, i1, j1, q5, q6, b1, q7, q⟩
      exact ⟨v1, q1, v2, q2, y1, k1, q3, q4, i1, j1, q5, q6, b1, q7, hQ _ _ q⟩
end
def keyP (r : Nat × Nat) : List Key := [kI r.1, kI r.2]
theorem keyP_inj (a b : Nat × Nat) (h : keyP a = keyP b) : a = b := by
  unfold keyP at h
  injection h with h1 h2
  injection h2 with h2 _
  exact Prod.ext (num_inj _ _ h1) (num_inj _ _ h2)
def seenP (prs : List (Nat × Nat)) : List (List Key × V) := prs.map fun y => (keyP y, V.bl true)
theorem seenP_at (x : Nat × Nat) (xs : List (Nat × Nat)) : valV (seenP xs) (keyP x) = if x ∈ xs then some (.bl true) else none := by
  unfold seenP
  rw [valV_keys keyP_inj x xs]
  by_cases h : x ∈ xs
  · rw [if_pos h, if_pos h]
  · rw [if_neg h, if_neg h]
theorem seenP_put {xs : List (Nat × Nat)} {x : Nat × Nat} (h : x ∉ xs) : putK (seenP xs) (keyP x) (.bl true) = seenP (xs ++ [x]) := by
  rw [putK_new _ (by rw [seenP_at, if_neg h]), seenP, seenP, List.map_append]
  rfl
def MetL (mv : List (List Nat)) (p q : Nat) (H0 : Hp) (E : Addr) (H : Hp) (a : Addr) (w : List Nat) : Prop := ∃ L, H a = some (.tup [.ref L, .int (run mv p w : Nat), .int (run mv q w : Nat)]) ∧ H L = some (.lst ((castI w).map V.int)) ∧ L ≠ E ∧ H0 L = none
def MetsL (mv : List (List Nat)) (p q : Nat) (H0 : Hp) (E : Addr) (H : Hp) (qs : List Addr) (ws : List (List Nat)) : Prop := Paired (MetL mv p q H0 E H) qs ws
theorem MetsL.keep {mv : List (List Nat)} {p q : Nat} {H0 : Hp} {D E : Addr} {H H' : Hp} {qs : List Addr} {ws : List (List Nat)} (m : MetsL mv p q H0 E H qs ws) (k : ∀ b o, H b = some o → b ≠ D → b ≠ E → H' b = some o) (h1 : ∃ xs, H D = some (.dT xs)) (h2 : ∃ xs, H E = some (.lst xs)) : MetsL mv p q H0 E H' qs ws :=
  Paired.mapP m fun a w ⟨L, e1, e2, n1, n2⟩ => ⟨L, k _ _ e1 (fun y => by obtain ⟨xs, z⟩ := h1; rw [y, z] at e1; cases e1) (fun y => by obtain ⟨xs, z⟩ := h2; rw [y, z] at e1; cases e1), k _ _ e2 (fun y => by obtain ⟨xs, z⟩ := h1; rw [y, z] at e2; cases e2) n1, n1, n2⟩
theorem MetsL.fresh {mv : List (List Nat)} {p q : Nat} {H0 : Hp} {S E : Addr} {H H' : Hp} {qs : List Addr} {ws : List (List Nat)} (m : MetsL mv p q H0 S H qs ws) (hE : H E = none) (s : Same H H') : MetsL mv p q H0 E H' qs ws :=
  Paired.mapP m fun a w ⟨L, e1, e2, n1, n2⟩ => ⟨L, s _ _ e1, s _ _ e2, ne_of_none e2 hE, n2⟩
theorem pre_at {α : Type} {pre cur new : List α} {j : Nat} {u : α} (h : cur[j]? = some u) : (pre ++ cur ++ new)[pre.length + j]? = some u := by
  have hj := (List.getElem?_eq_some_iff.mp h).1
  rw [List.getElem?_append_left (by rw [List.length_append]; omega), List.getElem?_append_right (by omega), Nat.add_sub_cancel_left]
  exact h
section
variable {P : Program} {w : World} {K : PySem.W.Frag} {mg : Str → Option Value} {base : Heap}
theorem sc_l_parting : FnScope ["_law_machine_here", "_law_one", "_law_other", "_law_seen", "_law_some", "_law_more", "_law_word", "_law_a", "_law_b", "_law_k", "_law_pair"] ["_law_machine_here", "_law_one", "_law_other"] (defScope s_l_parting) := ⟨rfl, rfl, rfl, by decide +kernel, rfl, by decide +kernel, by decide +kernel⟩
set_option maxHeartbeats 16000000 in
theorem ok_l_parting {a : Adr} (T : Txt K mg a) : FnOk P w K mg base CX0 1 a.f_l_parting a.fd_l_parting ["_law_machine_here", "_law_one", "_law_other"] spPart := by
  refine T.F_l_parting.ok sc_l_parting (fun vs H Q E h => ?_) (fun cdv A outer s H vs Q E hr h => ?_)
  · obtain ⟨ma, nm, bs, mv, B, p, q, rfl, _⟩ := h
    rfl
  · obtain ⟨ma, nm, bs, mv, B, p, q, rfl, ⟨ya, va, ps, e1, e2, e3, tp⟩, mvs, hB0, hB, hn, hp, hq, kN, kS⟩ := h
    refine ⟨_, (pss_cons (ps_set (i := 3) sc_l_parting.nd rfl (Or.inl rfl) (pe_dispT (Nat.lt_of_succ_lt (hu_of hr)) (pe_tup (pa_cons (pv 1) (pa_cons (pv 2) pa_nil))) pe_bl))
    (pss_cons (ps_set (i := 4) sc_l_parting.nd rfl (Or.inl rfl) (pe_lst (pa_cons (pe_tup (pa_cons (pe_lst pa_nil) (pa_cons (pv 1) (pa_cons (pv 2) pa_nil)))) pa_nil)))
    (pss_cons (ps_while PassesOwn.never (pt_cmpR op_gt (pe_callB (call_lenK K) (by rfl) T.z_len bt_len (pa_cons (pv 4) pa_nil)) pe_int (nomark _))
      (pss_cons (ps_set (i := 5) sc_l_parting.nd rfl (Or.inl rfl) (pe_lst pa_nil))
      (pss_cons (ps_for PassesOwn.never rfl (pi_list (pv 4)) (pg_tup rfl (pgs_cons (pg_name (i := 6) sc_l_parting.nd rfl (Or.inl rfl)) (pgs_cons (pg_name (i := 7) sc_l_parting.nd rfl (Or.inl rfl)) (pgs_cons (pg_name (i := 8) sc_l_parting.nd rfl (Or.inl rfl)) pgs_nil))))
        (pss_cons (ps_if (pt_cmpR op_ne (pe_ix (ix_tupK K) (pe_ix (ix_tupK K) (pv 0) pe_int (fun _ _ => rfl)) (pv 7) (fun _ _ => rfl)) (pe_ix (ix_tupK K) (pe_ix (ix_tupK K) (pv 0) pe_int (fun _ _ => rfl)) (pv 8) (fun _ _ => rfl)) (nomark _))
          (pss_one (ps_ret (pv 6)))
          pss_nil)
        (pss_one (ps_for PassesOwn.never rfl (pi_range1 rfl T.z_range (pa_cons (pe_callB (call_lenK K) (by rfl) T.z_len bt_len (pa_cons (pe_ix (ix_tupK K) (pe_ix (ix_tupK K) (pv 0) pe_int (fun _ _ => rfl)) pe_int (fun _ _ => rfl)) pa_nil)) pa_nil)) (pg_name (i := 9) sc_l_parting.nd rfl (Or.inl rfl))
          (pss_cons (ps_set (i := 10) sc_l_parting.nd rfl (Or.inl rfl) (pe_tup (pa_cons (pe_ix (ix_tupK K) (pe_ix (ix_tupK K) (pe_ix (ix_tupK K) (pv 0) pe_int (fun _ _ => rfl)) (pv 7) (fun _ _ => rfl)) (pv 9) (fun _ _ => rfl)) (pa_cons (pe_ix (ix_tupK K) (pe_ix (ix_tupK K) (pe_ix (ix_tupK K) (pv 0) pe_int (fun _ _ => rfl)) (pv 8) (fun _ _ => rfl)) (pv 9) (fun _ _ => rfl)) pa_nil))))
          (pss_one (ps_if (pt_cmp (pc_dnotin (hu_of hr) (pv 10) (pv 3)) (by with_unfolding_all rfl))
            (pss_cons (ps_dput (hu_of hr) (pv 3) (pv 10) pe_bl rfl)
            (pss_one (ps_expr (pe_bm PySem.F.plainAttrs_list PySem.F.slot_list_append PySem.F.type_list_append mt_append (pv 5) (pa_cons (pe_tup (pa_cons (pe_op op_cat (pv 6) (pe_lst (pa_cons (pv 9) pa_nil))) (pa_cons (pe_ix (ix_tupK K) (pv 10) pe_int (fun _ _ => rfl)) (pa_cons (pe_ix (ix_tupK K) (pv 10) pe_int (fun _ _ => rfl)) pa_nil)))) pa_nil)))))
            pss_nil)))))))
      (pss_one (ps_set (i := 4) sc_l_parting.nd rfl (Or.inl rfl) (pv 5))))))
    (pss_one (ps_ret pe_non))))), ?_⟩
    have big : (10000 : Nat) ≤ sizeLine := by decide
    have sq := sq_le hn
    have yAt : ∀ {H' : Hp} (x : Nat), Same H H' → x < bs.length → SqT K H' ya (bs.map V.bl) ∧ atI (bs.map V.bl) (x : Int) = some (.bl (bs.getD x false)) := fun x s hx => ⟨.of (s _ _ e2), atI_nat (by rw [List.getElem?_map, item_at false hx]; rfl)⟩
    have mAt : ∀ {H' : Hp} (x l : Nat), Same H H' → x < bs.length → l < B → SqT K H' va (ps.map V.ref) ∧ atI (ps.map V.ref) (x : Int) = some (.ref (ps.getD x 0)) ∧ SqT K H' (ps.getD x 0) ((castI (mv.getD x [])).map V.int) ∧ atI ((castI (mv.getD x [])).map V.int) (0 + (l : Int)) = some (.int (stp mv x l : Nat)) := fun x l s hx hl => by
      obtain ⟨h1, h2, h3⟩ := mvs.row tp hx
      exact ⟨.of (s _ _ e3), atI_nat (by rw [List.getElem?_map, h1]; rfl), .of (s _ _ h2), by rw [Int.zero_add]; exact atI_nat (castI_item (by rw [h3]; exact hl))⟩
    refine fun D hD => ⟨_, rfl, _, rfl, by show 2 ≤ sizeLine; omega, fun t0 ht0 => ?_⟩
    have sD := Same.new (o := .dT []) hD
    have st0 := Same.new (o := .tup [.int (p : Nat), .int (q : Nat)]) ht0
    have nDt : D ≠ t0 := ne_of_none (o := .dT []) upd_same ht0
    refine ⟨st0 _ _ upd_same, t0, keyP (p, q), rfl, upd_same, ?_⟩
    have s1 : Same H (upd (upd (upd H D (.dT [])) t0 (.tup [.int (p : Nat), .int (q : Nat)])) D (.dT [(keyP (p, q), .bl true)])) := (sD.trans st0).kbn hD KB.write
    have g1 : (upd (upd (upd H D (.dT [])) t0 (.tup [.int (p : Nat), .int (q : Nat)])) D (.dT [(keyP (p, q), .bl true)])) D = some (.dT (seenP (prsOf mv p q [[]]))) := upd_same
    dsimp only [gName]
    generalize upd (upd (upd H D (.dT [])) t0 (.tup [.int (p : Nat), .int (q : Nat)])) D (.dT [(keyP (p, q), .bl true)]) = H1 at s1 g1 ⊢
    refine ⟨by decide, fun L0 hL0 => ⟨_, rfl, _, rfl, by show 3 ≤ sizeLine; omega, fun q0 hq0 => ⟨by show 1 ≤ sizeLine; omega, fun S hS => ?_⟩⟩⟩
    have sL0 := Same.new (o := .lst []) hL0
    have sq0 := Same.new (o := .tup [.ref L0, .int (p : Nat), .int (q : Nat)]) hq0
    have sS := Same.new (o := .lst [.ref q0]) hS
    have s2 := s1.trans ((sL0.trans sq0).trans sS)
    have hL00 : H L0 = none := s1.free hL0
    have l02 := sS _ _ (sq0 _ _ (show (upd H1 L0 (.lst [])) L0 = some (.lst []) from upd_same))
    have nL0S : L0 ≠ S := ne_of_none (sq0 _ _ (show (upd H1 L0 (.lst [])) L0 = some (.lst []) from upd_same)) hS
    have g2 := ((sL0.trans sq0).trans sS) _ _ g1
    have q02 := sS _ _ (show (upd (upd H1 L0 (.lst [])) q0 (.tup [.ref L0, .int (p : Nat), .int (q : Nat)])) q0 = some (.tup [.ref L0, .int (p : Nat), .int (q : Nat)]) from upd_same)
    have m2 : (upd (upd (upd H1 L0 (.lst [])) q0 (.tup [.ref L0, .int (p : Nat), .int (q : Nat)])) S (.lst [.ref q0])) S = some (.lst [.ref q0]) := upd_same
    dsimp only [gName]
    generalize upd (upd (upd H1 L0 (.lst [])) q0 (.tup [.ref L0, .int (p : Nat), .int (q : Nat)])) S (.lst [.ref q0]) = H2 at s2 l02 g2 q02 m2 ⊢
    refine whileM (fun m σ H' => ∃ (pre cur : List (List Nat)) (qs : List Addr) (S : Addr) (v5 v6 v7 v8 v9 v10 : Option V), m = bs.length * bs.length - pre.length ∧ σ = [some (.ref ma), some (.int (p : Nat)), some (.int (q : Nat)), some (.ref D), some (.ref S), v5, v6, v7, v8, v9, v10] ∧
        Bfs B (lang bs mv p) (lang bs mv q) (pre ++ cur) pre.length 0 ∧ (∀ (i : Nat) (x : List Nat), i < pre.length → (pre ++ cur)[i]? = some x → lang bs mv p x = lang bs mv q x) ∧ (prsOf mv p q (pre ++ cur)).Nodup ∧ (∀ x ∈ pre ++ cur, x.length < (pre ++ cur).length) ∧ Same H H' ∧ H' D = some (.dT (seenP (prsOf mv p q (pre ++ cur)))) ∧ H' S = some (.lst (qs.map V.ref)) ∧ MetsL mv p q H S H' qs cur)
      ⟨_, [], [[]], [q0], S, none, none, none, none, none, none, rfl, rfl, Bfs.start, fun i x hi => absurd hi (Nat.not_lt_zero _), by simp [prsOf], fun x hx => by rw [List.mem_singleton.mp hx]; decide, s2, g2, m2, .cons ⟨L0, q02, l02, nL0S, hL00⟩ .nil⟩ ?_ ?_
    · rintro m σ H3 ⟨pre, cur, qs, S, v5, v6, v7, v8, v9, v10, rfl, rfl, bf, ag, nd, ln, s3, g3, m3, mt⟩
      have lq : qs.length = cur.length := Paired.length mt
      have lw := prs_len mvs hp hq bf.word nd
      rw [List.length_append] at lw
      refine ⟨_, rfl, _, qs.length, rfl, .inl ⟨_, .of m3, by rw [List.length_map]⟩, _, _, rfl, rfl, _, rfl, ?_⟩
      refine ite2 (fun z => ?_) (fun z => ?_)
      · have hpos : 0 < cur.length := by have := of_decide_eq_true z; omega
        refine ⟨by decide, fun En hEn => ?_⟩
        have sE := Same.new (o := .lst []) hEn
        have hE0 : H En = none := s3.free hEn
        have nSE : S ≠ En := ne_of_none m3 hEn
        have nDE : D ≠ En := ne_of_none g3 hEn
        dsimp only [gName]
        refine ⟨_, rfl, S, rfl, ⟨_, .of (sE _ _ m3)⟩, for_list (xs := qs.map V.ref) (fun j σ H' => ∃ (new : List (List Nat)) (nq : List Addr) (v6 v7 v8 v9 v10 : Option V), σ = [some (.ref ma), some (.int (p : Nat)), some (.int (q : Nat)), some (.ref D), some (.ref S), some (.ref En), v6, v7, v8, v9, v10] ∧
            Bfs B (lang bs mv p) (lang bs mv q) (pre ++ cur ++ new) (pre.length + j) 0 ∧ (∀ (i : Nat) (x : List Nat), i < pre.length + j → (pre ++ cur ++ new)[i]? = some x → lang bs mv p x = lang bs mv q x) ∧ (prsOf mv p q (pre ++ cur ++ new)).Nodup ∧ (∀ x ∈ pre ++ cur ++ new, x.length < (pre ++ cur ++ new).length) ∧ Same H H' ∧ H' D = some (.dT (seenP (prsOf mv p q (pre ++ cur ++ new)))) ∧ H' S = some (.lst (qs.map V.ref)) ∧ MetsL mv p q H En H' qs cur ∧ H' En = some (.lst (nq.map V.ref)) ∧ MetsL mv p q H En H' nq new)
          ⟨[], [], v6, v7, v8, v9, v10, rfl, by rw [List.append_nil]; exact bf, by rw [List.append_nil]; exact ag, by rw [List.append_nil]; exact nd, by rw [List.append_nil]; exact ln, s3.trans sE, by rw [List.append_nil]; exact sE _ _ g3, sE _ _ m3, mt.fresh hEn sE, upd_same, .nil⟩ (fun j σ H' _ ⟨_, _, _, _, _, _, _, _, _, _, _, _, _, _, e, _⟩ => .of e) ?_ ?_⟩
        · rintro j x σ H4 hx ⟨new, nq, v6, v7, v8, v9, v10, rfl, bf, ag, nd, ln, s4, g4, m4, mt4, e4, nt4⟩
          obtain ⟨qa, rfl, eqa⟩ := refItem hx
          obtain ⟨u, eu0, L, a1, a2, a3, a4⟩ := paired_get mt4 eqa
          have eu := pre_at (pre := pre) (new := new) eu0
          have hwu := bf.word u (List.mem_of_getElem? eu)
          have lu := ln u (List.mem_of_getElem? eu)
          have lw := prs_len mvs hp hq bf.word nd
          have hx' := mvs.run hp hwu
          have hy' := mvs.run hq hwu
          refine ⟨qa, _, rfl, .of a1, rfl, _, _, rfl, _, _, rfl, _, _, rfl, rfl, ?_⟩
          dsimp only [gName]
          obtain ⟨y1, y2⟩ := yAt _ s4 hx'
          obtain ⟨y3, y4⟩ := yAt _ s4 hy'
          refine ⟨_, rfl, ma, _, _, .ref ya, rfl, rfl, .of (s4 _ _ e1), atI_nat (j := 1) rfl, _, rfl, ya, _, _, _, rfl, rfl, y1, y2, _, rfl, ma, _, _, .ref ya, rfl, rfl, .of (s4 _ _ e1), atI_nat (j := 1) rfl, _, rfl, ya, _, _, _, rfl, rfl, y3, y4, rfl, _, rfl, ?_⟩
          refine ite2 (fun zz => ?_) (fun zz => ?_)
          · refine ⟨_, rfl, kS L u H4 a4 s4 a2 (by omega) ⟨hwu, fun e => ?_, bf.visit hB0 eu ag⟩⟩
            have e' : bs.getD (run mv p u) false = bs.getD (run mv q u) false := e
            rw [e'] at zz; simp at zz
          have ey : lang bs mv p u = lang bs mv q u := by
            show bs.getD (run mv p u) false = bs.getD (run mv q u) false
            cases h1 : bs.getD (run mv p u) false <;> cases h2 : bs.getD (run mv q u) false <;> rw [h1, h2] at zz <;> first | rfl | exact absurd (by decide) zz
          obtain ⟨w1, w2, w3⟩ := mvs.row tp (show 0 < bs.length by omega)
          refine ⟨_, rfl, ma, _, _, .ref va, rfl, rfl, .of (s4 _ _ e1), atI_nat (j := 2) rfl, va, _, _, .ref (ps.getD 0 0), rfl, rfl, .of (s4 _ _ e3), atI_nat (j := 0) (by rw [List.getElem?_map, w1]; rfl), _, B, rfl, .inr ⟨_, .of (s4 _ _ w2), by rw [List.length_map, castI_len, w3]⟩, _, rfl, by omega, by omega, for_range (n := (B : Int).toNat) (fun l σ H' => ∃ (new : List (List Nat)) (nq : List Addr) (v9 v10 : Option V), σ = [some (.ref ma), some (.int (p : Nat)), some (.int (q : Nat)), some (.ref D), some (.ref S), some (.ref En), some (.ref L), some (.int (run mv p u : Nat)), some (.int (run mv q u : Nat)), v9, v10] ∧
              Bfs B (lang bs mv p) (lang bs mv q) (pre ++ cur ++ new) (pre.length + j) l ∧ (∀ (i : Nat) (x : List Nat), i < pre.length + j → (pre ++ cur ++ new)[i]? = some x → lang bs mv p x = lang bs mv q x) ∧ (prsOf mv p q (pre ++ cur ++ new)).Nodup ∧ (∀ x ∈ pre ++ cur ++ new, x.length < (pre ++ cur ++ new).length) ∧ Same H H' ∧ H' D = some (.dT (seenP (prsOf mv p q (pre ++ cur ++ new)))) ∧ H' S = some (.lst (qs.map V.ref)) ∧ MetsL mv p q H En H' qs cur ∧ H' En = some (.lst (nq.map V.ref)) ∧ MetsL mv p q H En H' nq new ∧ H' L = some (.lst ((castI u).map V.int)))
            ⟨new, nq, v9, v10, rfl, bf, ag, nd, ln, s4, g4, m4, mt4, e4, nt4, a2⟩ ?_ ?_⟩
          · clear eu lu lw a1 a2 y1 y2 y3 y4 g4 m4 mt4 e4 nt4 bf ag nd ln s4
            rintro l σ H5 hl ⟨new, nq, v9, v10, rfl, bf, ag, nd, ln, s5, g5, m5, mt5, e5, nt5, l5⟩
            rw [Int.toNat_natCast] at hl
            have eu := pre_at (pre := pre) (new := new) eu0
            have lu := ln u (List.mem_of_getElem? eu)
            have lw := prs_len mvs hp hq bf.word nd
            have lnq : nq.length = new.length := Paired.length nt5
            have lap : (pre ++ cur ++ new).length = pre.length + cur.length + new.length := by rw [List.length_append, List.length_append]
            have r1 : run mv p (u ++ [l]) = stp mv (run mv p u) l := by rw [run_app]; rfl
            have r2 : run mv q (u ++ [l]) = stp mv (run mv q u) l := by rw [run_app]; rfl
            obtain ⟨x1, x2, x3, x4⟩ := mAt _ l s5 hx' hl
            obtain ⟨z1, z2, z3, z4⟩ := mAt _ l s5 hy' hl
            have hle := mvs.stp hx' hl
            have hri := mvs.stp hy' hl
            rw [← r1] at x4 hle
            rw [← r2] at z4 hri
            generalize hle' : run mv p (u ++ [l]) = lf at hle x4
            generalize hri' : run mv q (u ++ [l]) = rt at hri z4
            have ei : (0 : Int) + (l : Int) = (l : Int) := by omega
            refine ⟨_, rfl, ma, _, _, .ref va, rfl, rfl, .of (s5 _ _ e1), atI_nat (j := 2) rfl, _, rfl, va, _, _, _, rfl, rfl, x1, x2, _, rfl, _, _, _, _, rfl, rfl, x3, x4, ?_⟩
            refine ⟨_, rfl, ma, _, _, .ref va, rfl, rfl, .of (s5 _ _ e1), atI_nat (j := 2) rfl, _, rfl, va, _, _, _, rfl, rfl, z1, z2, _, rfl, _, _, _, _, rfl, rfl, z3, z4, by show 2 ≤ sizeLine; omega, fun qn hqn => ?_⟩
            have sn := Same.new (o := .tup [.int (lf : Nat), .int (rt : Nat)]) hqn
            have s6 := s5.trans sn
            have g6 := sn _ _ g5
            have m6 := sn _ _ m5
            have e6 := sn _ _ e5
            have l6 := sn _ _ l5
            have mt6 := mt5.keep (D := D) (fun b o e _ _ => sn b o e) ⟨_, g5⟩ ⟨_, e5⟩
            have nt6 := nt5.keep (D := D) (fun b o e _ _ => sn b o e) ⟨_, g5⟩ ⟨_, e5⟩
            have q6 : (upd H5 qn (.tup [.int (lf : Nat), .int (rt : Nat)])) qn = some (.tup [.int (lf : Nat), .int (rt : Nat)]) := upd_same
            dsimp only [gName]
            generalize upd H5 qn (.tup [.int (lf : Nat), .int (rt : Nat)]) = H6 at s6 g6 m6 e6 l6 mt6 nt6 q6 ⊢
            have nLD : L ≠ D := fun y => by rw [y, g6] at l6; cases l6
            have nSD : S ≠ D := fun y => by rw [y, g6] at m6; cases m6
            by_cases hin : (lf, rt) ∈ prsOf mv p q (pre ++ cur ++ new)
            · refine ⟨_, rfl, _, rfl, D, some (.bl true), rfl, .inr ⟨_, keyP (lf, rt), qn, .inl g6, rfl, q6, by rw [seenP_at, if_pos hin]⟩, _, rfl, iteF ?_⟩
              exact ⟨new, nq, _, _, rfl, bf.skip eu (prn_seen bf eu (by rw [hle', hri']; exact hin)), ag, nd, ln, s6, g6, m6, mt6, e6, nt6, l6⟩
            · refine ⟨_, rfl, _, rfl, D, none, rfl, .inr ⟨_, keyP (lf, rt), qn, .inl g6, rfl, q6, by rw [seenP_at, if_neg hin]⟩, _, rfl, iteT ?_⟩
              have lsn : (seenP (prsOf mv p q (pre ++ cur ++ new))).length = (pre ++ cur ++ new).length := by rw [seenP, List.length_map, prsOf, List.length_map]
              refine ⟨_, rfl, _, rfl, D, _, rfl, .inr ⟨_, keyP (lf, rt), qn, g6, rfl, q6, by rw [lsn]; omega, rfl⟩, ?_⟩
              rw [seenP_put hin]
              have pe : prsOf mv p q (pre ++ cur ++ new) ++ [(lf, rt)] = prsOf mv p q (pre ++ cur ++ (new ++ [u ++ [l]])) := by
                rw [← List.append_assoc (pre ++ cur), prsOf, prsOf, List.map_append (l₁ := pre ++ cur ++ new), List.map_cons, hle', hri']; rfl
              rw [pe]
              have kD : ∀ b o, H6 b = some o → b ≠ D → (upd H6 D (.dT (seenP (prsOf mv p q (pre ++ cur ++ (new ++ [u ++ [l]])))))) b = some o := fun b o e n => by rw [upd_ne n]; exact e
              have s7 : Same H (upd H6 D (.dT (seenP (prsOf mv p q (pre ++ cur ++ (new ++ [u ++ [l]])))))) := s6.kbn hD KB.write
              have g7 : (upd H6 D (.dT (seenP (prsOf mv p q (pre ++ cur ++ (new ++ [u ++ [l]])))))) D = some (.dT (seenP (prsOf mv p q (pre ++ cur ++ (new ++ [u ++ [l]]))))) := upd_same
              have m7 := kD _ _ m6 nSD
              have e7 := kD _ _ e6 nDE.symm
              have l7 := kD _ _ l6 nLD
              have q7 := kD _ _ q6 (fun y => by rw [y, g6] at q6; cases q6)
              have mt7 := mt6.keep (D := D) (fun b o e n1 _ => kD b o e n1) ⟨_, g6⟩ ⟨_, e6⟩
              have nt7 := nt6.keep (D := D) (fun b o e n1 _ => kD b o e n1) ⟨_, g6⟩ ⟨_, e6⟩
              generalize upd H6 D (.dT (seenP (prsOf mv p q (pre ++ cur ++ (new ++ [u ++ [l]]))))) = H7 at s7 g7 m7 e7 l7 q7 mt7 nt7 ⊢
              refine ⟨_, rfl, .inl ⟨rfl, _, .of e7⟩, _, rfl, _, rfl, by show 1 ≤ sizeLine; omega, fun Z hZ => ?_⟩
              have sZ := Same.new (o := .lst [.int (0 + (l : Int))]) hZ
              refine ⟨L, Z, _, _, rfl, rfl, sZ _ _ l7, upd_same, by rw [List.length_map, castI_len]; show _ + 1 ≤ _; omega, fun R hR => ?_⟩
              have sR := Same.new (o := .lst ((castI u).map V.int ++ [.int (0 + (l : Int))])) hR
              have q8 := (sZ.trans sR) _ _ q7
              refine ⟨_, rfl, qn, _, _, _, rfl, rfl, .of q8, atI_nat (j := 0) rfl, _, rfl, qn, _, _, _, rfl, rfl, .of q8, atI_nat (j := 1) rfl, by show 3 ≤ sizeLine; omega, fun qm hqm => ?_⟩
              have sqm := Same.new (o := .tup [.ref R, .int (lf : Nat), .int (rt : Nat)]) hqm
              have sA := (sZ.trans sR).trans sqm
              have e10 := sA _ _ e7
              have r10 := sqm _ _ (show (upd (upd H7 Z (.lst [.int (0 + (l : Int))])) R (.lst ((castI u).map V.int ++ [.int (0 + (l : Int))]))) R = some (.lst ((castI u).map V.int ++ [.int (0 + (l : Int))])) from upd_same)
              have nRE : R ≠ En := (ne_of_none (sZ _ _ e7) hR).symm
              have hR0 : H R = none := (s7.trans sZ).free hR
              have s10 := s7.trans sA
              have g10 := sA _ _ g7
              have m10 := sA _ _ m7
              have l10 := sA _ _ l7
              have mt10 := mt7.keep (D := D) (fun b o e _ _ => sA b o e) ⟨_, g7⟩ ⟨_, e7⟩
              have nt10 := nt7.keep (D := D) (fun b o e _ _ => sA b o e) ⟨_, g7⟩ ⟨_, e7⟩
              have q10 : (upd (upd (upd H7 Z (.lst [.int (0 + (l : Int))])) R (.lst ((castI u).map V.int ++ [.int (0 + (l : Int))]))) qm (.tup [.ref R, .int (lf : Nat), .int (rt : Nat)])) qm = some (.tup [.ref R, .int (lf : Nat), .int (rt : Nat)]) := upd_same
              generalize upd (upd (upd H7 Z (.lst [.int (0 + (l : Int))])) R (.lst ((castI u).map V.int ++ [.int (0 + (l : Int))]))) qm (.tup [.ref R, .int (lf : Nat), .int (rt : Nat)]) = H10 at e10 r10 s10 g10 m10 l10 mt10 nt10 q10 ⊢
              have nqE : qm ≠ En := fun y => by rw [← y, q10] at e10; cases e10
              have kE : ∀ b o, H10 b = some o → b ≠ En → (upd H10 En (.lst (nq.map V.ref ++ [.ref qm]))) b = some o := fun b o e n => by rw [upd_ne n]; exact e
              have eas : pre ++ cur ++ (new ++ [u ++ [l]]) = pre ++ cur ++ new ++ [u ++ [l]] := (List.append_assoc ..).symm
              refine ⟨En, _, _, rfl, rfl, e10, by rw [List.length_map]; omega, new ++ [u ++ [l]], nq ++ [qm], _, _, rfl, ?_, fun i x hi hx2 => ?_, ?_, fun x hx2 => ?_, s10.kbn hE0 KB.write, kE _ _ g10 nDE, kE _ _ m10 nSE, mt10.keep (D := D) (fun b o e _ n2 => kE b o e n2) ⟨_, g10⟩ ⟨_, e10⟩, ?_, ?_, kE _ _ l10 a3⟩
              · rw [eas]; exact bf.add eu hl
              · rw [eas, List.getElem?_append_left (by have := (List.getElem?_eq_some_iff.mp eu0).1; omega)] at hx2
                exact ag i x hi hx2
              · rw [← pe]; exact nodup_snoc nd hin
              · rw [eas] at hx2 ⊢
                rw [List.length_append]
                rcases List.mem_append.mp hx2 with y | y
                · have := ln x y; show _ < _ + 1; omega
                · rw [List.mem_singleton.mp y, List.length_append]; show _ + 1 < _ + 1; omega
              · rw [upd_same, List.map_append]; rfl
              · refine paired_append (nt10.keep (D := D) (fun b o e _ n2 => kE b o e n2) ⟨_, g10⟩ ⟨_, e10⟩) (.cons ⟨R, ?_, ?_, nRE, hR0⟩ .nil)
                · rw [hle', hri']; exact kE _ _ q10 nqE
                · rw [kE _ _ r10 nRE, castI_app, List.map_append, ei]; rfl
          · rintro σ H5 ⟨new, nq, v9, v10, rfl, bf, ag, nd, ln, s5, g5, m5, mt5, e5, nt5, _⟩
            rw [Int.toNat_natCast] at bf
            have lt : pre.length + j < (pre ++ cur ++ new).length := by
              have := (List.getElem?_eq_some_iff.mp eu0).1
              rw [List.length_append, List.length_append]; omega
            refine ⟨new, nq, _, _, _, _, _, rfl, bf.next lt, fun i x hi hx2 => ?_, nd, ln, s5, g5, m5, mt5, e5, nt5⟩
            rcases Nat.lt_or_ge i (pre.length + j) with y | y
            · exact ag i x y hx2
            · have : i = pre.length + j := by omega
              subst this
              rw [pre_at eu0] at hx2
              have := Option.some.inj hx2
              subst this
              exact ey
        · rintro σ H4 ⟨new, nq, v6, v7, v8, v9, v10, rfl, bf, ag, nd, ln, s4, g4, m4, mt4, e4, nt4⟩
          rw [List.length_map, lq, ← List.length_append] at bf ag
          have lw := prs_len mvs hp hq bf.word nd
          rw [List.length_append] at lw
          have l1 : (pre ++ cur).length = pre.length + cur.length := List.length_append
          exact ⟨_, rfl, bs.length * bs.length - (pre ++ cur).length, by omega, pre ++ cur, new, nq, En, _, _, _, _, _, _, rfl, rfl, bf, ag, nd, ln, s4, g4, e4, nt4⟩
      · have hz : cur = [] := by
          cases cur with
          | nil => rfl
          | cons c cs => exact absurd (decide_eq_true (by rw [lq, List.length_cons]; omega)) z
        subst hz
        rw [List.append_nil] at bf ag
        refine kN H3 s3 (bf.all hB0 (Nat.le_refl _) fun x hx => ?_)
        obtain ⟨i, hi⟩ := List.getElem?_of_mem hx
        exact ag i x (List.getElem?_eq_some_iff.mp hi).1 hi
    · rintro σ H Q Q' hQ ⟨v1, q1, y1, k1, q3, q4, i1, j1, q5, q6, b1, q7, q⟩
      exact ⟨v1, q1, y1, k1, q3, q4, i1, j1, q5, q6, b1, q7, hQ _ _ q⟩
end
end My
set_option Elab.async false
set_option linter.all false
set_option maxRecDepth 100000
set_option maxHeartbeats 4000000
namespace My
open PySem L2
def spLaw (K : PySem.W.Frag) (ts : List Addr) : Sp := fun vs H Q _ => ∃ (a : Addr) (ns : List Int), vs = [.ref a] ∧ SqL K H a (ns.map V.int) ∧ ns.length ≤ 63 ∧ OnlyT ts H ∧ ∀ H', Q (.bl true) H'
theorem ktu_kbT {H H' : Hp} {d : Addr} (k : KB d H H') (hd : ∃ ps, H d = some (.tbl ps)) : KTu H H' := fun b xs z => k _ _ z fun y => by
  obtain ⟨qs, q⟩ := hd
  rw [y, q] at z; cases z
theorem tab_deck2 {H H' : Hp} {T d : Addr} {L : List (Pos × Str)} (x : Tab H T L) (k : KB d H H') (hd : Deck2 H d) : Tab H' T L := by
  obtain ⟨ms, e⟩ := hd
  exact x.kb k (fun ps z => by rw [e] at z; cases z) fun φ z => by rw [e] at z; cases z
theorem tab_tbl {H : Hp} {T : Addr} {L : List (Pos × Str)} (x : Tab H T L) : ∃ ps, H T = some (.tbl ps) := let ⟨qs, z, _⟩ := x; ⟨qs, z⟩
theorem deck_tbl {H H' : Hp} {d T : Addr} (h : Deck2 H d) (k : KB T H H') (hT : ∃ ps, H T = some (.tbl ps)) : Deck2 H' d := h.kb k fun y => by
  obtain ⟨ms, e⟩ := h
  obtain ⟨qs, z⟩ := hT
  rw [y, z] at e; cases e
theorem op_or2 {X : Cx} {f : Value → Value → Sem Value} {r1 r2 : R2} (h1 : OpR X f r1) (h2 : OpR X f r2) : OpR X f (fun x y H Q => r1 x y H Q ∨ r2 x y H Q) := fun pins s σ H x y v u Q I rx ry h => h.elim (fun h => h1 pins s σ H x y v u Q I rx ry h) (fun h => h2 pins s σ H x y v u Q I rx ry h)
def prI (p : Nat × Nat) : List Int := castI [p.1, p.2]
def wdDt (u : List Nat) : Dt := .lst ((castI u).map Dt.int)
theorem wd_dat {K : PySem.W.Frag} {H : Hp} {R : Addr} {u : List Nat} (h : H R = some (.lst ((castI u).map V.int))) : DatAt K H (.ref R) (wdDt u) := dat_lst (.of h) (dats_ints _)
theorem wd_dep (u : List Nat) : (wdDt u).dep ≤ 40 := by rw [wdDt, Dt.dep, deps_ints]; decide
section
variable {P : Program} {w : World} {K : PySem.W.Frag} {mg : Str → Option Value} {base : Heap}
theorem sc_law : FnScope ["_law_script", "_law_deck_here", "_law_base", "_law_names_here", "_law_yes_here", "_law_moves", "_law_machine_here", "_law_thin", "_law_many", "_law_pairs", "_law_one", "_law_other", "_law_due", "_law_found"] ["_law_script"] (defScope s_law) := ⟨rfl, rfl, rfl, by decide +kernel, rfl, by decide +kernel, by decide +kernel⟩
set_option maxHeartbeats 16000000 in
theorem ok_law {a : Adr} (T : Txt K mg a) (hB : BltAt mg base) : FnOk P w K mg base CX0 6 a.f_law a.fd_law ["_law_script"] (spLaw K [a.t_thinned]) := by
  have G_l_deck : FnOk P w K mg base CX0 1 a.f_l_deck a.fd_l_deck ["_law_script"] (spDeck2 K) := ok_l_deck T
  have G_l_next : FnOk P w K mg base CX0 1 a.f_l_next a.fd_l_next ["_law_deck_here", "_law_many"] spNext2 := ok_l_next T
  have G_l_names : FnOk P w K mg base CX0 1 a.f_l_names a.fd_l_names ["_law_cell", "_law_many"] spNamesB := ok_l_names T
  have G_l_letters : FnOk P w K mg base CX0 1 a.f_l_letters a.fd_l_letters ["_law_base", "_law_many"] spLetters := ok_l_letters T
  have G_l_machine : FnOk P w K mg base CX0 3 a.f_l_machine a.fd_l_machine ["_law_deck_here", "_law_letters_here", "_law_few", "_law_most"] spMachB := ok_l_machine T
  have G_l_came : FnOk P w K mg base CX0 1 a.f_l_came a.fd_l_came ["_law_moves"] spCame := ok_l_came T
  have G_l_parting : FnOk P w K mg base CX0 1 a.f_l_parting a.fd_l_parting ["_law_machine_here", "_law_one", "_law_other"] spPart := ok_l_parting T
  have G_parting_of : FnOk P w K mg base CX0 2 a.f_parting_of a.fd_parting_of ["machine", "one", "other"] spPart := ok_parting_of T
  have G_thinned : FnOk P w K mg base CX0 4 a.f_thinned a.fd_thinned ["machine"] (spThin a.t_thinned) := ok_thinned T hB
  refine T.F_law.ok sc_law (fun vs H Q E h => ?_) (fun cdv A outer s H vs Q E hr h => ?_)
  · obtain ⟨sa, ns, rfl, _⟩ := h
    rfl
  · obtain ⟨sa, ns, rfl, hS, hns, hO, k⟩ := h
    have hr_l_deck : Room 1 _ := hr.mono (by decide)
    have hr_l_next : Room 1 _ := hr.mono (by decide)
    have hr_l_names : Room 1 _ := hr.mono (by decide)
    have hr_l_letters : Room 1 _ := hr.mono (by decide)
    have hr_l_machine : Room 3 _ := hr.mono (by decide)
    have hr_l_came : Room 1 _ := hr.mono (by decide)
    have hr_l_parting : Room 1 _ := hr.mono (by decide)
    have hr_parting_of : Room 2 _ := hr.mono (by decide)
    have hr_thinned : Room 4 _ := hr.mono (by decide)
    refine ⟨_, (pss_cons (ps_set (i := 1) sc_law.nd rfl (Or.inr rfl) (pe_call G_l_deck hr_l_deck rfl T.m_l_deck T.k_l_deck T.b_l_deck .nil pass0 (pa_cons (pv 0) pa_nil)))
    (pss_cons (ps_set (i := 2) sc_law.nd rfl (Or.inl rfl) (pe_op op_add pe_int (pe_call G_l_next hr_l_next rfl T.m_l_next T.k_l_next T.b_l_next .nil pass0 (pa_cons (pv 1) (pa_cons pe_int pa_nil)))))
    (pss_cons (ps_set (i := 3) sc_law.nd rfl (Or.inl rfl) (pe_callTy (call_tupleK K) (by rfl) T.z_tuple bt_tuple (pa_cons (pe_call G_l_names hr_l_names rfl T.m_l_names T.k_l_names T.b_l_names .nil pass0 (pa_cons (pe_call G_l_next hr_l_next rfl T.m_l_next T.k_l_next T.b_l_next .nil pass0 (pa_cons (pv 1) (pa_cons pe_int pa_nil))) (pa_cons (pe_call G_l_next hr_l_next rfl T.m_l_next T.k_l_next T.b_l_next .nil pass0 (pa_cons (pv 1) (pa_cons pe_int pa_nil))) pa_nil))) pa_nil)))
    (pss_cons (ps_asg (pe_call G_l_machine hr_l_machine rfl T.m_l_machine T.k_l_machine T.b_l_machine .nil pass0 (pa_cons (pv 1) (pa_cons (pe_callB (call_lenK K) (by rfl) T.z_len bt_len (pa_cons (pe_call G_l_letters hr_l_letters rfl T.m_l_letters T.k_l_letters T.b_l_letters .nil pass0 (pa_cons (pv 2) (pa_cons (pe_callB (call_lenK K) (by rfl) T.z_len bt_len (pa_cons (pv 3) pa_nil)) pa_nil))) pa_nil)) (pa_cons pe_int (pa_cons pe_int pa_nil))))) (pg_tup rfl (pgs_cons (pg_name (i := 4) sc_law.nd rfl (Or.inl rfl)) (pgs_cons (pg_name (i := 5) sc_law.nd rfl (Or.inl rfl)) pgs_nil))))
    (pss_cons (ps_set (i := 6) sc_law.nd rfl (Or.inl rfl) (pe_tup (pa_cons (pv 3) (pa_cons (pv 4) (pa_cons (pv 5) pa_nil)))))
    (pss_cons (ps_set (i := 7) sc_law.nd rfl (Or.inl rfl) (pe_call G_thinned hr_thinned rfl T.m_thinned T.k_thinned T.b_thinned .nil pass0 (pa_cons (pv 6) pa_nil)))
    (pss_cons (ps_set (i := 8) sc_law.nd rfl (Or.inr rfl) (pe_callB (call_lenK K) (by rfl) T.z_len bt_len (pa_cons (pe_ix (ix_tupK K) (pv 7) pe_int (fun _ _ => rfl)) pa_nil)))
    (pss_cons (ps_if (pt_cmpR (op_neD K hr.units) (pe_call G_l_came hr_l_came rfl T.m_l_came T.k_l_came T.b_l_came .nil pass0 (pa_cons (pe_ix (ix_tupK K) (pv 7) pe_int (fun _ _ => rfl)) pa_nil)) (pe_listrange1 hr.hd rfl T.z_list rfl T.z_range (pa_cons (pv 8) pa_nil)) (nomark _))
      (pss_one (ps_ret pe_bl))
      pss_nil)
    (pss_cons (ps_set (i := 9) sc_law.nd rfl (Or.inl rfl) (pe_lst pa_nil))
    (pss_cons (ps_for PassesOwn.never rfl (pi_range1 rfl T.z_range (pa_cons (pe_callB (call_min2 rfl) (by rfl) T.z_min bt_min (pa_cons (pv 8) (pa_cons pe_int pa_nil))) pa_nil)) (pg_name (i := 10) sc_law.nd rfl (Or.inr rfl))
      (pss_one (ps_expr (pe_bm PySem.F.plainAttrs_list PySem.F.slot_list_extend PySem.F.type_list_extend mt_extend (pv 9) (pa_cons (pe_comp (CompScope.mk' (esc := defScope s_law) (N := ["_law_script", "_law_deck_here", "_law_base", "_law_names_here", "_law_yes_here", "_law_moves", "_law_machine_here", "_law_thin", "_law_many", "_law_pairs", "_law_one", "_law_other", "_law_due", "_law_found"]) (own := ["_law_other"]) (frn := ["_law_one"]) (frj := [10]) rfl rfl (by decide +kernel)) rfl (pi_range1 rfl T.z_range (pa_cons (pv 10) pa_nil)) (fun _ _ _ _ => (pg_name (i := 0) (show List.Nodup (["_law_other", "_law_one"] : List Str) by decide +kernel) rfl (Or.inl rfl))) (fun _ _ _ _ => pifs_nil) (fun _ _ _ _ => (pe_tup (pa_cons (pv 1) (pa_cons (pv 0) pa_nil))))) pa_nil)))))
    (pss_cons (ps_if (pt_cmpR op_gt (pv 8) pe_int (nomark _))
      (pss_one (ps_set (i := 9) sc_law.nd rfl (Or.inl rfl) (pe_op op_cat (pe_comp (CompScope.mk' (esc := defScope s_law) (N := ["_law_script", "_law_deck_here", "_law_base", "_law_names_here", "_law_yes_here", "_law_moves", "_law_machine_here", "_law_thin", "_law_many", "_law_pairs", "_law_one", "_law_other", "_law_due", "_law_found"]) (own := ["_law_turn"]) (frn := ["_law_deck_here", "_law_many"]) (frj := [1, 8]) rfl rfl (by decide +kernel)) rfl (pi_range1 rfl T.z_range (pa_cons pe_int pa_nil)) (fun _ _ _ _ => (pg_name (i := 0) (show List.Nodup (["_law_turn", "_law_deck_here", "_law_many"] : List Str) by decide +kernel) rfl (Or.inl rfl))) (fun _ _ _ _ => pifs_nil) (fun _ _ _ _ => (pe_tup (pa_cons (pe_op op_add pe_int (pe_call G_l_next hr_l_next rfl T.m_l_next T.k_l_next T.b_l_next .nil pass0 (pa_cons (pv 1) (pa_cons (pe_op op_sub (pv 2) pe_int) pa_nil)))) (pa_cons pe_int pa_nil))))) (pe_lst (pa_cons (pe_tup (pa_cons (pe_op op_sub (pv 8) pe_int) (pa_cons (pe_op op_sub (pv 8) pe_int) pa_nil))) (pa_cons (pe_tup (pa_cons pe_int (pa_cons pe_int pa_nil))) pa_nil))))))
      pss_nil)
    (pss_cons (ps_for PassesOwn.never rfl (pi_list (pv 9)) (pg_tup rfl (pgs_cons (pg_name (i := 10) sc_law.nd rfl (Or.inr rfl)) (pgs_cons (pg_name (i := 11) sc_law.nd rfl (Or.inl rfl)) pgs_nil)))
      (pss_cons (ps_set (i := 12) sc_law.nd rfl (Or.inl rfl) (pe_call G_l_parting hr_l_parting rfl T.m_l_parting T.k_l_parting T.b_l_parting .nil pass0 (pa_cons (pv 7) (pa_cons (pv 10) (pa_cons (pv 11) pa_nil)))))
      (pss_cons (ps_set (i := 13) sc_law.nd rfl (Or.inl rfl) (pe_call G_parting_of hr_parting_of rfl T.m_parting_of T.k_parting_of T.b_parting_of .nil pass0 (pa_cons (pv 7) (pa_cons (pv 10) (pa_cons (pv 11) pa_nil)))))
      (pss_cons (ps_if (PW.pt (pw_or (pt_cmpR op_isN (pv 12) pe_non (nomark _)) (pw_or (pt_cmpR (op_neD K hr.units) (pv 13) (pv 12) (nomark _)) (pw_or1 (pt_cmpR (op_neD K hr.units) (pe_call G_parting_of hr_parting_of rfl T.m_parting_of T.k_parting_of T.b_parting_of .nil pass0 (pa_cons (pv 7) (pa_cons (pv 11) (pa_cons (pv 10) pa_nil)))) (pv 12) (nomark _))))))
        (pss_one (ps_ret pe_bl))
        pss_nil)
      (pss_cons (ps_expr (pe_bm PySem.F.plainAttrs_list PySem.F.slot_list_append PySem.F.type_list_append mt_append (pv 13) (pa_cons pe_int pa_nil)))
      (pss_one (ps_if (pt_cmpR (op_neD K hr.units) (pe_call G_parting_of hr_parting_of rfl T.m_parting_of T.k_parting_of T.b_parting_of .nil pass0 (pa_cons (pv 7) (pa_cons (pv 10) (pa_cons (pv 11) pa_nil)))) (pv 12) (nomark _))
        (pss_one (ps_ret pe_bl))
        pss_nil)))))))
    (pss_cons (ps_set (i := 10) sc_law.nd rfl (Or.inr rfl) (pe_call G_l_next hr_l_next rfl T.m_l_next T.k_l_next T.b_l_next .nil pass0 (pa_cons (pv 1) (pa_cons (pe_callB (call_lenK K) (by rfl) T.z_len bt_len (pa_cons (pv 5) pa_nil)) pa_nil))))
    (pss_cons (ps_set (i := 11) sc_law.nd rfl (Or.inl rfl) (pe_call G_l_next hr_l_next rfl T.m_l_next T.k_l_next T.b_l_next .nil pass0 (pa_cons (pv 1) (pa_cons (pe_callB (call_lenK K) (by rfl) T.z_len bt_len (pa_cons (pv 5) pa_nil)) pa_nil))))
    (pss_cons (ps_set (i := 13) sc_law.nd rfl (Or.inl rfl) (pe_call G_parting_of hr_parting_of rfl T.m_parting_of T.k_parting_of T.b_parting_of .nil pass0 (pa_cons (pv 6) (pa_cons (pv 10) (pa_cons (pv 11) pa_nil)))))
    (pss_cons (ps_if (PW.pt (pw_and (pt_cmpR op_notN (pv 13) pe_non (nomark _)) (pw_and1 (pt_not (pt_truth (pe_callB (call_isiK K) (by rfl) T.z_isinstance bt_isinstance (pa_cons (pv 13) (pa_cons (pe_bltn (v := .ty "list") rfl T.z_list bt_list rfl) pa_nil))) (fun _ => rfl))))))
      (pss_one (ps_ret pe_bl))
      pss_nil)
    (pss_one (ps_ret (pe_and (pe_cmpR (op_or2 op_eq (op_eqD K hr.units)) (pv 13) (pe_call G_l_parting hr_l_parting rfl T.m_l_parting T.k_l_parting T.b_l_parting .nil pass0 (pa_cons (pv 6) (pa_cons (pv 10) (pa_cons (pv 11) pa_nil)))) (nomark _)) (pe_one (pe_cmpR op_isN (pe_call G_parting_of hr_parting_of rfl T.m_parting_of T.k_parting_of T.b_parting_of .nil pass0 (pa_cons (pv 6) (pa_cons (pv 10) (pa_cons (pv 10) pa_nil)))) pe_non (nomark _)))))))))))))))))))))), ?_⟩
    have big : (10000 : Nat) ≤ sizeLine := by decide
    have ta0 : Tab H a.t_thinned Lthin := hO.tab (by simp)
    refine ⟨_, rfl, sa, ns, rfl, hS, hns, fun d H1 hd s1 d1 => ?_⟩
    have ta1 := ta0.same s1
    refine ⟨_, rfl, d, 3, rfl, d1, by decide, fun r H2 r0 r1 k2 d2 => ⟨_, _, rfl, rfl, ?_⟩⟩
    have ta2 := tab_deck2 ta1 k2 d1
    obtain ⟨r', rfl⟩ := toN r0
    have eb : (2 : Int) + (r' : Int) = ((2 + r' : Nat) : Int) := by omega
    dsimp only [gName]
    rw [eb]
    generalize hbb : 2 + r' = b
    have hb2 : 2 ≤ b := by omega
    have hb4 : b ≤ 4 := by omega
    refine ⟨_, rfl, d, 720720, rfl, d2, by decide, fun c H3 c0 c1 k3 d3 => ?_⟩
    have ta3 := tab_deck2 ta2 k3 d2
    obtain ⟨c', rfl⟩ := toN c0
    refine ⟨_, rfl, d, 3, rfl, d3, by decide, fun u H4 u0 u1 k4 d4 => ?_⟩
    obtain ⟨m, rfl⟩ := toN u0
    refine ⟨c', m, rfl, by omega, fun N ss H5 s5 n5 lss => ?_⟩
    refine ⟨N, _, rfl, .inl ⟨.of n5, fun nm hnm => ?_⟩⟩
    have snm := Same.new (o := .tup (ss.map V.str)) hnm
    have ta6 := ((tab_deck2 ta3 k4 d3).same s5).same snm
    have d6 := (d4.same s5).same snm
    have e6 : (upd H5 nm (.tup (ss.map V.str))) nm = some (.tup (ss.map V.str)) := upd_same
    dsimp only [gName]
    generalize upd H5 nm (.tup (ss.map V.str)) = H6 at ta6 d6 e6 ⊢
    refine ⟨_, rfl, _, rfl, _, rfl, _, m, rfl, .inr ⟨_, .of e6, by rw [List.length_map, lss]⟩, b, m, rfl, hb4, by omega, fun D ps0 H7 hD s7 e7 t7 => ?_⟩
    have lB : ps0.length = b ^ m := by rw [Paired.length t7, lets_len]
    have hB0 : 0 < b ^ m := Nat.pow_pos (by omega)
    have hB2 : b ^ m ≤ 16 := Nat.le_trans (Nat.pow_le_pow_left hb4 _) (Nat.le_trans (Nat.pow_le_pow_right (show 0 < 4 by decide) (show m ≤ 2 by omega)) (by decide))
    refine ⟨_, b ^ m, rfl, .inl ⟨_, .of e7, by rw [List.length_map, lB]⟩, d, b ^ m, 9, 60, rfl, d6.same s7, hB0, by omega, by decide, by decide, by decide, by decide, fun pa ya va ps bs mv H8 k8 d8 p8 mvs h0 h60 => ?_⟩
    generalize b ^ m = B at hB0 hB2 mvs
    obtain ⟨q1, q2, q3, q4⟩ := p8
    have ta8 := tab_deck2 (ta6.same s7) k8 (d6.same s7)
    refine ⟨pa, _, rfl, .of q1, rfl, _, _, rfl, _, _, rfl, rfl, ?_⟩
    dsimp only [gName]
    refine ⟨_, rfl, _, rfl, _, rfl, by show 3 ≤ sizeLine; decide, fun ma hma => ?_⟩
    have sma := Same.new (o := .tup [.ref nm, .ref ya, .ref va]) hma
    have ema : MachAt (upd H8 ma (.tup [.ref nm, .ref ya, .ref va])) ma nm bs mv := ⟨ya, va, ps, upd_same, sma _ _ q2, sma _ _ q3, q4.keep sma.kt⟩
    have va9 := sma _ _ q3
    have lps : ps.length = bs.length := by rw [Paired.length q4, List.length_map, mvs.len]
    have ta9 := ta8.same sma
    have d9 := d8.same sma
    dsimp only [gName]
    generalize upd H8 ma (.tup [.ref nm, .ref ya, .ref va]) = H9 at ema va9 ta9 d9 ⊢
    refine ⟨_, rfl, ma, nm, bs, mv, B, rfl, ema, mvs, h0, by omega, by omega, ta9, fun tm bs1 mv1 H11 kb ta11 em1 cn le ln => ?_⟩
    have kt := ktu_kbT kb (tab_tbl ta9)
    have d11 := deck_tbl d9 kb (tab_tbl ta9)
    have ema11 := ema.keep kt
    have va11 := kt _ _ va9
    obtain ⟨ya1, va1, ps1, w1, w2, w3, tp1⟩ := id em1
    have npos := cn.pos
    dsimp only [gName]
    refine ⟨_, rfl, tm, _, _, .ref ya1, rfl, rfl, .of w1, atI_nat (j := 1) rfl, _, bs1.length, rfl, .inr ⟨_, .of w2, by rw [List.length_map]⟩, ?_⟩
    dsimp only [gName]
    refine ⟨_, rfl, tm, _, _, .ref va1, rfl, rfl, .of w1, atI_nat (j := 2) rfl, va1, ps1, mv1, bs1.length, B, rfl, w3, tp1, cn.mvs, cn.go, npos, by omega, fun Dc H12 s12 ec => ?_⟩
    refine ⟨_, rfl, bs1.length, rfl, by omega, fun R hR => ?_⟩
    rw [range_cast]
    have sR := Same.new (o := .lst ((castI (List.range bs1.length)).map V.int)) hR
    have s13 := s12.trans sR
    have ec' := sR _ _ ec
    have er : (upd H12 R (.lst ((castI (List.range bs1.length)).map V.int))) R = some (.lst ((castI (List.range bs1.length)).map V.int)) := upd_same
    generalize upd H12 R (.lst ((castI (List.range bs1.length)).map V.int)) = H13 at s13 ec' er ⊢
    refine ⟨?_, wdDt (List.range bs1.length), wdDt (List.range bs1.length), wd_dat ec', wd_dat er, .inr ⟨_, _, rfl, rfl⟩⟩
    refine ⟨wdDt (List.range bs1.length), wdDt (List.range bs1.length), wd_dat ec', wd_dat er, rfl, rfl, wd_dep _, _, rfl, ?_⟩
    rw [if_pos rfl, Dt.beq_refl]
    refine iteF ?_
    refine ⟨by decide, fun P0 hP0 => ?_⟩
    have sP0 := Same.new (o := .lst []) hP0
    dsimp only [gName]
    refine ⟨_, rfl, _, _, rfl, _, rfl, by split <;> omega, by split <;> omega, for_range (fun i σ H' => ∃ (prs : List (Nat × Nat)) (qs : List Addr) (v10 : Option V), σ = [some (.ref sa), some (.ref d), some (.int (b : Nat)), some (.ref nm), some (.ref ya), some (.ref va), some (.ref ma), some (.ref tm), some (.int (bs1.length : Nat)), some (.ref P0), v10, none, none, none] ∧ Same H13 H' ∧ H' P0 = some (.lst (qs.map V.ref)) ∧ Tups H' qs (prs.map prI) ∧ prs.length ≤ 9 * i ∧ ∀ r ∈ prs, r.1 ≠ r.2 ∧ r.1 < bs1.length ∧ r.2 < bs1.length)
      ⟨[], [], none, rfl, sP0, upd_same, .nil, by decide, fun r hr => (by cases hr)⟩ ?_ ?_⟩
    · rintro i σ H14 hi ⟨prs, qs, v10, rfl, s14, p14, tq, lp, ok⟩
      have hi9 : i < 9 ∧ i < bs1.length := by split at hi <;> omega
      have lq : qs.length = prs.length := by rw [Paired.length tq, List.length_map]
      refine ⟨_, rfl, .inl ⟨rfl, _, .of p14⟩, _, rfl, _, rfl, by omega, by omega, fun C hC => ?_⟩
      have ei : (0 : Int) + (i : Int) = (i : Int) := by omega
      refine comp_range (fun j σ H' => ∃ (new : List (Nat × Nat)) (nq : List Addr) (v : Option V), σ = [v, some (.int (0 + (i : Int)))] ∧ Same H14 H' ∧ H' C = some (.lst (nq.map V.ref)) ∧ Tups H' nq (new.map prI) ∧ new.length = j ∧ ∀ r ∈ new, r.1 ≠ r.2 ∧ r.1 < bs1.length ∧ r.2 < bs1.length)
        ⟨[], [], none, ?sg1, Same.new hC, upd_same, .nil, rfl, fun r hr => (by cases hr)⟩ ?_ ?_
      case sg1 => rfl
      · rintro j σ H15 hj ⟨new, nq, v, rfl, s15, c15, tn, lnw, okn⟩
        have hj' : j < i := by omega
        have lnq : nq.length = new.length := by rw [Paired.length tn, List.length_map]
        refine ⟨_, rfl, _, rfl, by show 2 ≤ sizeLine; omega, fun qn hqn => ?_⟩
        have sq := Same.new (o := .tup [.int (0 + (i : Int)), .int (0 + (j : Int))]) hqn
        have c16 := sq _ _ c15
        have ktC : KTu (upd H15 qn (.tup [.int (0 + (i : Int)), .int (0 + (j : Int))])) (upd (upd H15 qn (.tup [.int (0 + (i : Int)), .int (0 + (j : Int))])) C (.lst (nq.map V.ref ++ [.ref qn]))) := KTu.lst c16
        refine ⟨_, c16, by rw [List.length_map]; omega, new ++ [(i, j)], nq ++ [qn], _, rfl, (s15.trans sq).kbn hC KB.write, ?_, ?_, by rw [List.length_append, lnw]; rfl, fun r hr => ?_⟩
        · rw [upd_same, List.map_append]; rfl
        · rw [List.map_append]
          refine paired_append ((tn.keep sq.kt).keep ktC) (.cons (ktC _ _ ?_) .nil)
          rw [upd_same, ei, show (0 : Int) + (j : Int) = (j : Int) by omega]
          rfl
        · rcases List.mem_append.mp hr with y | y
          · exact okn r y
          · rw [List.mem_singleton.mp y]; exact ⟨by show i ≠ j; omega, hi9.2, by show j < _; omega⟩
      rintro σ H15 ⟨new, nq, v, rfl, s15, c15, tn, lnw, okn⟩
      have lnq : nq.length = new.length := by rw [Paired.length tn, List.length_map]
      have lnw' : new.length = i := by rw [lnw]; omega
      have p15 := s15 _ _ p14
      have ktP : KTu H15 (upd H15 P0 (.lst (qs.map V.ref ++ nq.map V.ref))) := KTu.lst p15
      refine ⟨P0, C, _, _, rfl, rfl, p15, c15, by rw [List.length_map, List.length_map]; omega, prs ++ new, qs ++ nq, _, rfl, (s14.trans s15).kbn hP0 KB.write, by rw [upd_same, List.map_append], ?_, by rw [List.length_append]; omega, fun r hr => ?_⟩
      · rw [List.map_append]
        exact paired_append ((tq.keep s15.kt).keep ktP) (tn.keep ktP)
      · rcases List.mem_append.mp hr with y | y
        · exact ok r y
        · exact okn r y
    rintro σ H14 ⟨prs, qs, v10, rfl, s14, p14, tq, lp, ok⟩
    have lp' : prs.length ≤ 81 := by split at lp <;> omega
    have s1114 := s13.trans s14
    have d14 := d11.same s1114
    dsimp only
    refine seq_rest (t := tIfS _ _ _) (fun σ H' => ∃ (Pa : Addr) (prs : List (Nat × Nat)) (qs : List Addr), σ = [some (.ref sa), some (.ref d), some (.int (b : Nat)), some (.ref nm), some (.ref ya), some (.ref va), some (.ref ma), some (.ref tm), some (.int (bs1.length : Nat)), some (.ref Pa), v10, none, none, none] ∧ KB d H14 H' ∧ Deck2 H' d ∧ H' Pa = some (.lst (qs.map V.ref)) ∧ Tups H' qs (prs.map prI) ∧ ∀ r ∈ prs, r.1 ≠ r.2 ∧ r.1 < bs1.length ∧ r.2 < bs1.length) ?rest (fun rest => ?_)
    case rest =>
      rintro σ H15 ⟨Pa, prs, qs, rfl, k15, d15, p15, tq, ok⟩
      have kt15 := d14.ktu k15
      have em15 := (em1.keep s1114.kt).keep kt15
      have ema15 := (ema11.keep s1114.kt).keep kt15
      have va15 := kt15 _ _ (s1114 _ _ va11)
      refine ⟨_, rfl, Pa, rfl, ⟨_, .of p15⟩, for_list (xs := qs.map V.ref) (fun i σ H' => ∃ (v10 v11 v12 v13 : Option V), σ = [some (.ref sa), some (.ref d), some (.int (b : Nat)), some (.ref nm), some (.ref ya), some (.ref va), some (.ref ma), some (.ref tm), some (.int (bs1.length : Nat)), some (.ref Pa), v10, v11, v12, v13] ∧ Same H15 H')
        ⟨v10, none, none, none, rfl, .refl _⟩ (fun i σ H' _ ⟨_, _, _, _, _, s'⟩ => .of (s' _ _ p15)) ?_ ?_⟩
      · rintro i x σ H16 hx ⟨v10, v11, v12, v13, rfl, s16⟩
        obtain ⟨qa, rfl, eqa⟩ := refItem hx
        obtain ⟨l', hl', el⟩ := tq.get eqa
        rw [List.getElem?_map] at hl'
        obtain ⟨⟨p, q⟩, hpq, rfl⟩ := Option.map_eq_some_iff.mp hl'
        obtain ⟨hne, hp, hq⟩ := ok _ (List.mem_of_getElem? hpq)
        have hne' : p ≠ q := hne
        have el' : H16 qa = some (.tup [.int (p : Nat), .int (q : Nat)]) := s16 _ _ el
        have em16 := em15.keep s16.kt
        have noL : ¬ LEq B (lang bs1 mv1 p) (lang bs1 mv1 q) := fun e => hne' (cn.inj p q hp hq e)
        refine ⟨qa, _, rfl, .of el', rfl, _, _, rfl, _, _, rfl, rfl, ?_⟩
        dsimp only [gName]
        refine ⟨_, rfl, _, rfl, _, rfl, tm, nm, bs1, mv1, B, p, q, rfl, em16, cn.mvs, hB0, by omega, by omega, hp, hq, fun _ _ e => absurd e noL, fun Rd u H17 hRd s17 e17 lu least => ?_⟩
        dsimp only [gName]
        refine ⟨_, rfl, _, rfl, _, rfl, tm, nm, bs1, mv1, B, p, q, rfl, em16.keep s17.kt, cn.mvs, hB0, by omega, by omega, hp, hq, fun _ _ e => absurd e noL, fun Rf u2 H18 hRf s18 e18 _ least2 => ?_⟩
        have : u2 = u := least2.one hB0 least
        subst this
        have e17' := s18 _ _ e17
        have nRf : Rd ≠ Rf := ne_of_none e17 hRf
        dsimp only [gName]
        refine ⟨_, rfl, rfl, _, rfl, ?_⟩
        refine ite2 (fun z => absurd z (by simp)) (fun _ => ?_)
        refine ⟨_, rfl, _, rfl, ?_⟩
        refine ⟨?_, wdDt u2, wdDt u2, wd_dat e18, wd_dat e17', .inr ⟨_, _, rfl, rfl⟩⟩
        refine ⟨wdDt u2, wdDt u2, wd_dat e18, wd_dat e17', rfl, rfl, wd_dep _, _, rfl, ?_⟩
        rw [if_pos rfl, Dt.beq_refl]
        refine iteF ?_
        have em18 := (em16.keep s17.kt).keep s18.kt
        refine ⟨_, rfl, _, rfl, _, rfl, tm, nm, bs1, mv1, B, q, p, rfl, em18, cn.mvs, hB0, by omega, by omega, hq, hp, fun _ _ e => absurd e.symm noL, fun Rg u3 H19 hRg s19 e19 _ least3 => ⟨_, rfl, ?_⟩⟩
        have : u3 = u2 := least3.symm.one hB0 least
        subst this
        have e17'' := s19 _ _ e17'
        have e18' := s19 _ _ e18
        refine ⟨?_, wdDt u3, wdDt u3, wd_dat e19, wd_dat e17'', .inr ⟨_, _, rfl, rfl⟩⟩
        refine ⟨wdDt u3, wdDt u3, wd_dat e19, wd_dat e17'', rfl, rfl, wd_dep _, _, rfl, ?_⟩
        rw [if_pos rfl, Dt.beq_refl]
        refine iteF ?_
        refine ⟨_, rfl, .inl ⟨rfl, _, .of e18'⟩, Rf, _, _, rfl, rfl, e18', by rw [List.length_map, castI_len]; omega, ?_⟩
        have ktF : KTu H19 (upd H19 Rf (.lst ((castI u3).map V.int ++ [.int 99]))) := KTu.lst e18'
        have e20 : (upd H19 Rf (.lst ((castI u3).map V.int ++ [.int 99]))) Rd = some (.lst ((castI u3).map V.int)) := by rw [upd_ne nRf]; exact e17''
        have s20 : Same H15 (upd H19 Rf (.lst ((castI u3).map V.int ++ [.int 99]))) := (((s16.trans s17).trans s18).trans s19).kbn ((s16.trans s17).free hRf) KB.write
        have em20 := (em18.keep s19.kt).keep ktF
        generalize upd H19 Rf (.lst ((castI u3).map V.int ++ [.int 99])) = H20 at e20 s20 em20 ⊢
        refine ⟨_, rfl, _, rfl, _, rfl, tm, nm, bs1, mv1, B, p, q, rfl, em20, cn.mvs, hB0, by omega, by omega, hp, hq, fun _ _ e => absurd e noL, fun Rh u4 H21 hRh s21 e21 _ least4 => ⟨_, rfl, ?_⟩⟩
        have : u4 = u3 := least4.one hB0 least
        subst this
        have e20' := s21 _ _ e20
        refine ⟨?_, wdDt u4, wdDt u4, wd_dat e21, wd_dat e20', .inr ⟨_, _, rfl, rfl⟩⟩
        refine ⟨wdDt u4, wdDt u4, wd_dat e21, wd_dat e20', rfl, rfl, wd_dep _, _, rfl, ?_⟩
        rw [if_pos rfl, Dt.beq_refl]
        exact iteF ⟨_, _, _, _, rfl, s20.trans s21⟩
      · rintro σ H16 ⟨v10, v11, v12, v13, rfl, s16⟩
        have d16 := d15.same s16
        have ema16 := ema15.keep s16.kt
        have va16 := s16 _ _ va15
        refine ⟨_, rfl, _, rfl, _, bs.length, rfl, .inr ⟨_, .of va16, by rw [List.length_map, lps]⟩, d, (bs.length : Int), rfl, d16, by omega, fun x H17 x0 x1 k17 d17 => ?_⟩
        obtain ⟨p, rfl⟩ := toN x0
        have kt17 := d16.ktu k17
        dsimp only [gName]
        refine ⟨_, rfl, _, rfl, _, bs.length, rfl, .inr ⟨_, .of (kt17 _ _ va16), by rw [List.length_map, lps]⟩, d, (bs.length : Int), rfl, d17, by omega, fun y H18 y0 y1 k18 d18 => ?_⟩
        obtain ⟨q, rfl⟩ := toN y0
        have hp : p < bs.length := by omega
        have hq : q < bs.length := by omega
        have em18 := (ema16.keep kt17).keep (d17.ktu k18)
        dsimp only [gName]
        refine ⟨_, rfl, _, rfl, _, rfl, ma, nm, bs, mv, B, p, q, rfl, em18, mvs, hB0, by omega, by omega, hp, hq, fun H19 s19 leq => ?_, fun Rf u H19 hRf s19 e19 lu least => ?_⟩
        · dsimp only [gName]
          refine ⟨_, rfl, rfl, _, rfl, ?_⟩
          refine ite2 (fun z => absurd z (by simp)) (fun _ => ?_)
          refine iteF ?_
          refine ⟨_, rfl, _, rfl, _, rfl, _, rfl, ma, nm, bs, mv, B, p, q, rfl, em18.keep s19.kt, mvs, hB0, by omega, by omega, hp, hq, fun H20 s20 _ => ?_, fun _ _ _ _ _ _ _ l => (l.not leq).elim⟩
          refine .inl ⟨rfl, _, rfl, ?_⟩
          rw [decide_eq_true rfl]
          refine iteT ?_
          refine ⟨_, rfl, _, rfl, _, rfl, ma, nm, bs, mv, B, p, p, rfl, (em18.keep s19.kt).keep s20.kt, mvs, hB0, by omega, by omega, hp, hp, fun H21 _ _ => ⟨rfl, ?_⟩, fun _ _ _ _ _ _ _ l => absurd rfl l.2.1⟩
          rw [decide_eq_true rfl]
          exact k _
        · dsimp only [gName]
          refine ⟨_, rfl, rfl, _, rfl, ?_⟩
          refine ite2 (fun _ => ?_) (fun z => absurd (by simp) z)
          refine ⟨_, rfl, V.ref Rf, _, "list", true, rfl, TyOf.lst e19, kit_ll, true, rfl, iteF ?_⟩
          refine ⟨_, rfl, _, rfl, _, rfl, _, rfl, ma, nm, bs, mv, B, p, q, rfl, em18.keep s19.kt, mvs, hB0, by omega, by omega, hp, hq, fun _ _ leq => (least.not leq).elim, fun Rg u2 H20 hRg s20 e20 _ least2 => ?_⟩
          have : u2 = u := least2.one hB0 least
          subst this
          refine .inr ⟨wdDt u2, wdDt u2, wd_dat (s20 _ _ e19), wd_dat e20, rfl, rfl, wd_dep _, _, rfl, ?_⟩
          rw [if_neg Bool.false_ne_true, Dt.beq_refl]
          refine iteT ?_
          refine ⟨_, rfl, _, rfl, _, rfl, ma, nm, bs, mv, B, p, p, rfl, (em18.keep s19.kt).keep s20.kt, mvs, hB0, by omega, by omega, hp, hp, fun H21 _ _ => ⟨rfl, ?_⟩, fun _ _ _ _ _ _ _ l => absurd rfl l.2.1⟩
          rw [decide_eq_true rfl]
          exact k _
    · refine ⟨_, rfl, _, _, rfl, rfl, _, rfl, ?_⟩
      refine ite2 (fun z => ?_) (fun _ => rest _ _ ⟨P0, prs, qs, rfl, .refl _ _, d14, p14, tq, ok⟩)
      have hm9 : 9 < bs1.length := by have := of_decide_eq_true z; omega
      refine ⟨_, rfl, by decide, by decide, fun C hC => ?_⟩
      have nC := d14.nd hC
      refine comp_range (fun j σ H' => ∃ (new : List (Nat × Nat)) (nq : List Addr) (v : Option V), σ = [v, some (.ref d), some (.int (bs1.length : Nat))] ∧ KB d H14 H' ∧ Deck2 H' d ∧ H' C = some (.lst (nq.map V.ref)) ∧ Tups H' nq (new.map prI) ∧ new.length = j ∧ ∀ r ∈ new, r.1 ≠ r.2 ∧ r.1 < bs1.length ∧ r.2 < bs1.length)
        ⟨[], [], none, ?sg2, (Same.new hC).kb, d14.same (Same.new hC), upd_same, .nil, rfl, fun r hr => (by cases hr)⟩ ?_ ?_
      case sg2 => rfl
      · rintro j σ H15 hj ⟨new, nq, v, rfl, k15, d15, c15, tn, lnw, okn⟩
        have hj' : j < 6 := hj
        have lnq : nq.length = new.length := by rw [Paired.length tn, List.length_map]
        refine ⟨_, rfl, _, rfl, _, _, rfl, rfl, d, (bs1.length : Int) - 1, rfl, d15, by omega, fun y H16 y0 y1 k16 d16 => ⟨_, _, rfl, rfl, by show 2 ≤ sizeLine; omega, fun qn hqn => ?_⟩⟩
        obtain ⟨y', rfl⟩ := toN y0
        have sq := Same.new (o := .tup [.int (1 + (y' : Int)), .int 0]) hqn
        have c16 := sq _ _ (k16 _ _ c15 nC)
        have ktC : KTu (upd H16 qn (.tup [.int (1 + (y' : Int)), .int 0])) (upd (upd H16 qn (.tup [.int (1 + (y' : Int)), .int 0])) C (.lst (nq.map V.ref ++ [.ref qn]))) := KTu.lst c16
        refine ⟨_, c16, by rw [List.length_map]; omega, new ++ [(1 + y', 0)], nq ++ [qn], _, rfl, KB.updN ((k15.trans k16).trans sq.kb) hC, (d16.same sq).upd nC, ?_, ?_, by rw [List.length_append, lnw]; rfl, fun r hr => ?_⟩
        · rw [upd_same, List.map_append]; rfl
        · rw [List.map_append]
          refine paired_append (((tn.keep (d15.ktu k16)).keep sq.kt).keep ktC) (.cons (ktC _ _ ?_) .nil)
          rw [upd_same]
          show _ = some (HO.tup [.int ((1 + y' : Nat) : Int), .int ((0 : Nat) : Int)])
          rw [Int.natCast_add]
          rfl
        · rcases List.mem_append.mp hr with z | z
          · exact okn r z
          · rw [List.mem_singleton.mp z]; exact ⟨by show 1 + y' ≠ 0; omega, by show 1 + y' < _; omega, npos⟩
      rintro σ H15 ⟨new, nq, v, rfl, k15, d15, c15, tn, lnw, okn⟩
      have lnq : nq.length = new.length := by rw [Paired.length tn, List.length_map]
      have lnw' : new.length = 6 := lnw
      refine ⟨_, rfl, _, _, rfl, rfl, _, rfl, _, _, rfl, rfl, by show 2 ≤ sizeLine; omega, fun ta hta => ⟨by show 2 ≤ sizeLine; omega, fun tb htb => ⟨by show 2 ≤ sizeLine; omega, fun Z hZ => ?_⟩⟩⟩
      have sta := Same.new (o := .tup [.int ((bs1.length : Int) - 1), .int ((bs1.length : Int) - 2)]) hta
      have stb := Same.new (o := .tup [.int 1, .int 0]) htb
      have sZ := Same.new (o := .lst [.ref ta, .ref tb]) hZ
      have sA := (sta.trans stb).trans sZ
      refine ⟨C, Z, _, _, rfl, rfl, sA _ _ c15, upd_same, by rw [List.length_map]; show _ + 2 ≤ _; omega, fun Pa hPa => ?_⟩
      have sPa := Same.new (o := .lst (nq.map V.ref ++ [.ref ta, .ref tb])) hPa
      have sB := sA.trans sPa
      refine rest _ _ ⟨Pa, new ++ [(bs1.length - 1, bs1.length - 2), (1, 0)], nq ++ [ta, tb], rfl, k15.trans sB.kb, d15.same sB, by rw [upd_same, List.map_append]; rfl, ?_, fun r hr => ?_⟩
      · rw [List.map_append]
        refine paired_append (tn.keep sB.kt) (.cons ?_ (.cons ?_ .nil))
        · rw [(stb.trans (sZ.trans sPa)) _ _ upd_same]
          show _ = some (HO.tup [.int ((bs1.length - 1 : Nat) : Int), .int ((bs1.length - 2 : Nat) : Int)])
          rw [show ((bs1.length - 1 : Nat) : Int) = (bs1.length : Int) - 1 by omega, show ((bs1.length - 2 : Nat) : Int) = (bs1.length : Int) - 2 by omega]
        · rw [(sZ.trans sPa) _ _ upd_same]; rfl
      · rcases List.mem_append.mp hr with z | z
        · exact okn r z
        · rcases List.mem_cons.mp z with y | y
          · rw [y]; exact ⟨by show bs1.length - 1 ≠ bs1.length - 2; omega, by show bs1.length - 1 < _; omega, by show bs1.length - 2 < _; omega⟩
          · rw [List.mem_singleton.mp y]; exact ⟨by decide, by show 1 < _; omega, npos⟩
end
end My
set_option Elab.async false
set_option linter.all false
set_option maxRecDepth 100000
set_option maxHeartbeats 4000000
namespace My
open PySem L2
theorem all_mk {l : PySem.W.OpenLaw} {w : World} {K : PySem.W.Frag} {h : Heap} {mg : Str → Option Value} {fa : Addr} (X : K.In h) (G : h.Ns mainGlobals mg) (hfa : mg "law" = some (.ref fa))
    {f0 : Addr} {od0 an0 : Option Addr} {sl0 : Array (Option Value)} {oc0 kV0 dc0 pm0 ct0 : Value} {cA0 : Addr}
    {dT0 dn0 : Nat} {dcl0 : Value} {dod0 : Option Addr} {dit0 : Value} {dsl0 : Array (Option Value)}
    {f1 : Addr} {od1 an1 : Option Addr} {sl1 : Array (Option Value)} {oc1 kV1 dc1 pm1 ct1 : Value} {cd1 : Value}
    {f2 : Addr} {od2 an2 : Option Addr} {sl2 : Array (Option Value)} {oc2 kV2 dc2 pm2 ct2 : Value} {cd2 : Value}
    {f3 : Addr} {od3 an3 : Option Addr} {sl3 : Array (Option Value)} {oc3 kV3 dc3 pm3 ct3 : Value} {cd3 : Value}
    {f4 : Addr} {od4 an4 : Option Addr} {sl4 : Array (Option Value)} {oc4 kV4 dc4 pm4 ct4 : Value} {cd4 : Value}
    {f5 : Addr} {od5 an5 : Option Addr} {sl5 : Array (Option Value)} {oc5 kV5 dc5 pm5 ct5 : Value} {cA5 : Addr}
    {tA5 : Addr} {cod5 : Option Addr} {cvs5 : Array Value} {csl5 : Array (Option Value)}
    {f6 : Addr} {od6 an6 : Option Addr} {sl6 : Array (Option Value)} {oc6 kV6 dc6 pm6 ct6 : Value} {cd6 : Value}
    {f7 : Addr} {od7 an7 : Option Addr} {sl7 : Array (Option Value)} {oc7 kV7 dc7 pm7 ct7 : Value} {cd7 : Value}
    {f8 : Addr} {od8 an8 : Option Addr} {sl8 : Array (Option Value)} {oc8 kV8 dc8 pm8 ct8 : Value} {cd8 : Value}
    {f9 : Addr} {od9 an9 : Option Addr} {sl9 : Array (Option Value)} {oc9 kV9 dc9 pm9 ct9 : Value} {cd9 : Value}
    {f10 : Addr} {od10 an10 : Option Addr} {sl10 : Array (Option Value)} {oc10 kV10 dc10 pm10 ct10 : Value} {cd10 : Value}
    {f11 : Addr} {od11 an11 : Option Addr} {sl11 : Array (Option Value)} {oc11 kV11 dc11 pm11 ct11 : Value} {cd11 : Value}
    {f12 : Addr} {od12 an12 : Option Addr} {sl12 : Array (Option Value)} {oc12 kV12 dc12 pm12 ct12 : Value} {cd12 : Value}
    {f13 : Addr} {od13 an13 : Option Addr} {sl13 : Array (Option Value)} {oc13 kV13 dc13 pm13 ct13 : Value} {cd13 : Value}
    {f14 : Addr} {od14 an14 : Option Addr} {sl14 : Array (Option Value)} {oc14 kV14 dc14 pm14 ct14 : Value} {cd14 : Value}
    {f15 : Addr} {od15 an15 : Option Addr} {sl15 : Array (Option Value)} {oc15 kV15 dc15 pm15 ct15 : Value} {cd15 : Value}
    {f16 : Addr} {od16 an16 : Option Addr} {sl16 : Array (Option Value)} {oc16 kV16 dc16 pm16 ct16 : Value} {cd16 : Value}
    {f17 : Addr} {od17 an17 : Option Addr} {sl17 : Array (Option Value)} {oc17 kV17 dc17 pm17 ct17 : Value} {cd17 : Value}
    {f18 : Addr} {od18 an18 : Option Addr} {sl18 : Array (Option Value)} {oc18 kV18 dc18 pm18 ct18 : Value} {cd18 : Value}
    (a0 : PySem.W.nsIn K mainGlobals "grown_from" = some (some (.ref f0))) (l0 : K.lookup f0 = some ⟨oc0, od0, .func (PySem.W.fnOf "grown_from" "grown_from" (defArgs s_grown_from) (defBody s_grown_from) (defScope s_grown_from) (.ref dT0) kV0 dc0 pm0 an0 (.ref cA0) ct0), sl0⟩) (c0 : PySem.W.codeIn K (.ref cA0) "grown_from" = true) (k0 : PySem.W.keepIn K (.ref f0) = true)
    (ld0 : K.lookup dT0 = some ⟨dcl0, dod0, .seq #[dit0] dn0, dsl0⟩)
    (a1 : PySem.W.nsIn K mainGlobals "rooms_into" = some (some (.ref f1))) (l1 : K.lookup f1 = some ⟨oc1, od1, .func (PySem.W.fnOf "rooms_into" "rooms_into" (defArgs s_rooms_into) (defBody s_rooms_into) (defScope s_rooms_into) .none kV1 dc1 pm1 an1 cd1 ct1), sl1⟩) (c1 : PySem.W.codeIn K cd1 "rooms_into" = true) (k1 : PySem.W.keepIn K (.ref f1) = true)
    (a2 : PySem.W.nsIn K mainGlobals "split_kind" = some (some (.ref f2))) (l2 : K.lookup f2 = some ⟨oc2, od2, .func (PySem.W.fnOf "split_kind" "split_kind" (defArgs s_split_kind) (defBody s_split_kind) (defScope s_split_kind) .none kV2 dc2 pm2 an2 cd2 ct2), sl2⟩) (c2 : PySem.W.codeIn K cd2 "split_kind" = true) (k2 : PySem.W.keepIn K (.ref f2) = true)
    (a3 : PySem.W.nsIn K mainGlobals "split_kinds" = some (some (.ref f3))) (l3 : K.lookup f3 = some ⟨oc3, od3, .func (PySem.W.fnOf "split_kinds" "split_kinds" (defArgs s_split_kinds) (defBody s_split_kinds) (defScope s_split_kinds) .none kV3 dc3 pm3 an3 cd3 ct3), sl3⟩) (c3 : PySem.W.codeIn K cd3 "split_kinds" = true) (k3 : PySem.W.keepIn K (.ref f3) = true)
    (a4 : PySem.W.nsIn K mainGlobals "kinds_of" = some (some (.ref f4))) (l4 : K.lookup f4 = some ⟨oc4, od4, .func (PySem.W.fnOf "kinds_of" "kinds_of" (defArgs s_kinds_of) (defBody s_kinds_of) (defScope s_kinds_of) .none kV4 dc4 pm4 an4 cd4 ct4), sl4⟩) (c4 : PySem.W.codeIn K cd4 "kinds_of" = true) (k4 : PySem.W.keepIn K (.ref f4) = true)
    (a5 : PySem.W.nsIn K mainGlobals "thinned" = some (some (.ref f5))) (l5 : K.lookup f5 = some ⟨oc5, od5, .func (PySem.W.fnOf "thinned" "thinned" (defArgs s_thinned) (defBody s_thinned) (defScope s_thinned) .none kV5 dc5 pm5 an5 (.ref cA5) ct5), sl5⟩) (c5 : PySem.W.codeIn K (.ref cA5) "thinned" = true) (k5 : PySem.W.keepIn K (.ref f5) = true)
    (lc5 : K.lookup cA5 = some ⟨.type "code", cod5, .fields cvs5, csl5⟩) (lv5 : cvs5[11]? = some (.ref tA5))
    (le5 : ((match (cvs5[11]? : Option Value) with | some (.ref P') => P' == tA5 | _ => false) && (match cvs5.getD 18 .none with | .str _ _ => true | _ => false) && (match cvs5.getD 7 .none with | .int _ _ => true | _ => false) && (match cvs5.getD 9 .none with | .bool _ => true | _ => false) && (match cvs5.getD 10 .none with | .int _ _ => true | _ => false) && cA5 != tA5) = true)
    (ln5 : K.lookup tA5 = none) (lt5 : h.get? tA5 = some (PySem.W.tabObj #[]))
    (a6 : PySem.W.nsIn K mainGlobals "head_of" = some (some (.ref f6))) (l6 : K.lookup f6 = some ⟨oc6, od6, .func (PySem.W.fnOf "head_of" "head_of" (defArgs s_head_of) (defBody s_head_of) (defScope s_head_of) .none kV6 dc6 pm6 an6 cd6 ct6), sl6⟩) (c6 : PySem.W.codeIn K cd6 "head_of" = true) (k6 : PySem.W.keepIn K (.ref f6) = true)
    (a7 : PySem.W.nsIn K mainGlobals "parting_of" = some (some (.ref f7))) (l7 : K.lookup f7 = some ⟨oc7, od7, .func (PySem.W.fnOf "parting_of" "parting_of" (defArgs s_parting_of) (defBody s_parting_of) (defScope s_parting_of) .none kV7 dc7 pm7 an7 cd7 ct7), sl7⟩) (c7 : PySem.W.codeIn K cd7 "parting_of" = true) (k7 : PySem.W.keepIn K (.ref f7) = true)
    (a8 : PySem.W.nsIn K mainGlobals "_law_deck" = some (some (.ref f8))) (l8 : K.lookup f8 = some ⟨oc8, od8, .func (PySem.W.fnOf "_law_deck" "_law_deck" (defArgs s_l_deck) (defBody s_l_deck) (defScope s_l_deck) .none kV8 dc8 pm8 an8 cd8 ct8), sl8⟩) (c8 : PySem.W.codeIn K cd8 "_law_deck" = true) (k8 : PySem.W.keepIn K (.ref f8) = true)
    (a9 : PySem.W.nsIn K mainGlobals "_law_next" = some (some (.ref f9))) (l9 : K.lookup f9 = some ⟨oc9, od9, .func (PySem.W.fnOf "_law_next" "_law_next" (defArgs s_l_next) (defBody s_l_next) (defScope s_l_next) .none kV9 dc9 pm9 an9 cd9 ct9), sl9⟩) (c9 : PySem.W.codeIn K cd9 "_law_next" = true) (k9 : PySem.W.keepIn K (.ref f9) = true)
    (a10 : PySem.W.nsIn K mainGlobals "_law_rooms" = some (some (.ref f10))) (l10 : K.lookup f10 = some ⟨oc10, od10, .func (PySem.W.fnOf "_law_rooms" "_law_rooms" (defArgs s_l_rooms) (defBody s_l_rooms) (defScope s_l_rooms) .none kV10 dc10 pm10 an10 cd10 ct10), sl10⟩) (c10 : PySem.W.codeIn K cd10 "_law_rooms" = true) (k10 : PySem.W.keepIn K (.ref f10) = true)
    (a11 : PySem.W.nsIn K mainGlobals "_law_yes" = some (some (.ref f11))) (l11 : K.lookup f11 = some ⟨oc11, od11, .func (PySem.W.fnOf "_law_yes" "_law_yes" (defArgs s_l_yes) (defBody s_l_yes) (defScope s_l_yes) .none kV11 dc11 pm11 an11 cd11 ct11), sl11⟩) (c11 : PySem.W.codeIn K cd11 "_law_yes" = true) (k11 : PySem.W.keepIn K (.ref f11) = true)
    (a12 : PySem.W.nsIn K mainGlobals "_law_names" = some (some (.ref f12))) (l12 : K.lookup f12 = some ⟨oc12, od12, .func (PySem.W.fnOf "_law_names" "_law_names" (defArgs s_l_names) (defBody s_l_names) (defScope s_l_names) .none kV12 dc12 pm12 an12 cd12 ct12), sl12⟩) (c12 : PySem.W.codeIn K cd12 "_law_names" = true) (k12 : PySem.W.keepIn K (.ref f12) = true)
    (a13 : PySem.W.nsIn K mainGlobals "_law_letters" = some (some (.ref f13))) (l13 : K.lookup f13 = some ⟨oc13, od13, .func (PySem.W.fnOf "_law_letters" "_law_letters" (defArgs s_l_letters) (defBody s_l_letters) (defScope s_l_letters) .none kV13 dc13 pm13 an13 cd13 ct13), sl13⟩) (c13 : PySem.W.codeIn K cd13 "_law_letters" = true) (k13 : PySem.W.keepIn K (.ref f13) = true)
    (a14 : PySem.W.nsIn K mainGlobals "_law_came" = some (some (.ref f14))) (l14 : K.lookup f14 = some ⟨oc14, od14, .func (PySem.W.fnOf "_law_came" "_law_came" (defArgs s_l_came) (defBody s_l_came) (defScope s_l_came) .none kV14 dc14 pm14 an14 cd14 ct14), sl14⟩) (c14 : PySem.W.codeIn K cd14 "_law_came" = true) (k14 : PySem.W.keepIn K (.ref f14) = true)
    (a15 : PySem.W.nsIn K mainGlobals "_law_parting" = some (some (.ref f15))) (l15 : K.lookup f15 = some ⟨oc15, od15, .func (PySem.W.fnOf "_law_parting" "_law_parting" (defArgs s_l_parting) (defBody s_l_parting) (defScope s_l_parting) .none kV15 dc15 pm15 an15 cd15 ct15), sl15⟩) (c15 : PySem.W.codeIn K cd15 "_law_parting" = true) (k15 : PySem.W.keepIn K (.ref f15) = true)
    (a16 : PySem.W.nsIn K mainGlobals "_law_chain" = some (some (.ref f16))) (l16 : K.lookup f16 = some ⟨oc16, od16, .func (PySem.W.fnOf "_law_chain" "_law_chain" (defArgs s_l_chain) (defBody s_l_chain) (defScope s_l_chain) .none kV16 dc16 pm16 an16 cd16 ct16), sl16⟩) (c16 : PySem.W.codeIn K cd16 "_law_chain" = true) (k16 : PySem.W.keepIn K (.ref f16) = true)
    (a17 : PySem.W.nsIn K mainGlobals "_law_machine" = some (some (.ref f17))) (l17 : K.lookup f17 = some ⟨oc17, od17, .func (PySem.W.fnOf "_law_machine" "_law_machine" (defArgs s_l_machine) (defBody s_l_machine) (defScope s_l_machine) .none kV17 dc17 pm17 an17 cd17 ct17), sl17⟩) (c17 : PySem.W.codeIn K cd17 "_law_machine" = true) (k17 : PySem.W.keepIn K (.ref f17) = true)
    (a18 : PySem.W.nsIn K mainGlobals "law" = some (some (.ref f18))) (l18 : K.lookup f18 = some ⟨oc18, od18, .func (PySem.W.fnOf "law" "law" (defArgs s_law) (defBody s_law) (defScope s_law) .none kV18 dc18 pm18 an18 cd18 ct18), sl18⟩) (c18 : PySem.W.codeIn K cd18 "law" = true) (k18 : PySem.W.keepIn K (.ref f18) = true)
    (z0 : PySem.W.nsIn K mainGlobals "tuple" = some none)
    (z1 : PySem.W.nsIn K mainGlobals "enumerate" = some none)
    (z2 : PySem.W.nsIn K mainGlobals "dict" = some none)
    (z3 : PySem.W.nsIn K mainGlobals "list" = some none)
    (z4 : PySem.W.nsIn K mainGlobals "range" = some none)
    (z5 : PySem.W.nsIn K mainGlobals "sorted" = some none)
    (z6 : PySem.W.nsIn K mainGlobals "len" = some none)
    (z7 : PySem.W.nsIn K mainGlobals "min" = some none)
    (z8 : PySem.W.nsIn K mainGlobals "sum" = some none)
    (z9 : PySem.W.nsIn K mainGlobals "bool" = some none)
    (z10 : PySem.W.nsIn K mainGlobals "isinstance" = some none)
    : ∃ (fd : FuncData) (ts : List Addr), (∀ T ∈ ts, (∃ c, PySem.W.CodeHd h c T) ∧ h.get? T = some (PySem.W.tabObj #[]) ∧ K.lookup T = none) ∧ (∀ (s : Shared) (v : Value), BindsTo s fd ⟨[v], []⟩ [("_law_script", v)]) ∧ ∀ base : Heap, K.In base → base.Ns mainGlobals mg → BltAt mg base → FnOk l.prog w K mg base CX0 6 fa fd ["_law_script"] (spLaw K ts) := by
  have e := hfa.symm.trans (PySem.W.mg_of X G a18)
  cases e
  have F0 := func_mk (st := s_grown_from) l0 c0 k0
  have b0 : Binds K (PySem.W.fnOf "grown_from" "grown_from" (defArgs s_grown_from) (defBody s_grown_from) (defScope s_grown_from) (.ref dT0) kV0 dc0 pm0 an0 (.ref cA0) ct0) ["first", "many", "onward", "is_yes", "most"] [] := fun s us hK hl => match us, hl with | [_, _, _, _, _], _ => BindsTo.of_defaults (T := dT0) rfl (hK _ _ ld0) rfl rfl rfl
  have F1 := fun_mk (st := s_rooms_into) l1 c1 k1
  have b1 := F1.binds (ps := ["moves", "letter"]) fun _ _ _ _ _ _ us hl => match us, hl with | [_, _], _ => rfl
  have F2 := fun_mk (st := s_split_kind) l2 c2 k2
  have b2 := F2.binds (ps := ["kind", "some", "kinds", "members"]) fun _ _ _ _ _ _ us hl => match us, hl with | [_, _, _, _], _ => rfl
  have F3 := fun_mk (st := s_split_kinds) l3 c3 k3
  have b3 := F3.binds (ps := ["some", "kinds", "members"]) fun _ _ _ _ _ _ us hl => match us, hl with | [_, _, _], _ => rfl
  have F4 := fun_mk (st := s_kinds_of) l4 c4 k4
  have b4 := F4.binds (ps := ["yes", "moves"]) fun _ _ _ _ _ _ us hl => match us, hl with | [_, _], _ => rfl
  have F5 := func_mk (st := s_thinned) l5 c5 k5
  have H5 := codeHd_in lc5 le5
  have b5 : Binds K (PySem.W.fnOf "thinned" "thinned" (defArgs s_thinned) (defBody s_thinned) (defScope s_thinned) .none kV5 dc5 pm5 an5 (.ref cA5) ct5) ["machine"] [] := .all fun us hl => match us, hl with | [_], _ => rfl
  have F6 := fun_mk (st := s_head_of) l6 c6 k6
  have b6 := F6.binds (ps := ["heads", "room"]) fun _ _ _ _ _ _ us hl => match us, hl with | [_, _], _ => rfl
  have F7 := fun_mk (st := s_parting_of) l7 c7 k7
  have b7 := F7.binds (ps := ["machine", "one", "other"]) fun _ _ _ _ _ _ us hl => match us, hl with | [_, _, _], _ => rfl
  have F8 := fun_mk (st := s_l_deck) l8 c8 k8
  have b8 := F8.binds (ps := ["_law_script"]) fun _ _ _ _ _ _ us hl => match us, hl with | [_], _ => rfl
  have F9 := fun_mk (st := s_l_next) l9 c9 k9
  have b9 := F9.binds (ps := ["_law_deck_here", "_law_many"]) fun _ _ _ _ _ _ us hl => match us, hl with | [_, _], _ => rfl
  have F10 := fun_mk (st := s_l_rooms) l10 c10 k10
  have b10 := F10.binds (ps := ["_law_deck_here", "_law_letters_here", "_law_many"]) fun _ _ _ _ _ _ us hl => match us, hl with | [_, _, _], _ => rfl
  have F11 := fun_mk (st := s_l_yes) l11 c11 k11
  have b11 := F11.binds (ps := ["_law_deck_here", "_law_moves"]) fun _ _ _ _ _ _ us hl => match us, hl with | [_, _], _ => rfl
  have F12 := fun_mk (st := s_l_names) l12 c12 k12
  have b12 := F12.binds (ps := ["_law_cell", "_law_many"]) fun _ _ _ _ _ _ us hl => match us, hl with | [_, _], _ => rfl
  have F13 := fun_mk (st := s_l_letters) l13 c13 k13
  have b13 := F13.binds (ps := ["_law_base", "_law_many"]) fun _ _ _ _ _ _ us hl => match us, hl with | [_, _], _ => rfl
  have F14 := fun_mk (st := s_l_came) l14 c14 k14
  have b14 := F14.binds (ps := ["_law_moves"]) fun _ _ _ _ _ _ us hl => match us, hl with | [_], _ => rfl
  have F15 := fun_mk (st := s_l_parting) l15 c15 k15
  have b15 := F15.binds (ps := ["_law_machine_here", "_law_one", "_law_other"]) fun _ _ _ _ _ _ us hl => match us, hl with | [_, _, _], _ => rfl
  have F16 := fun_mk (st := s_l_chain) l16 c16 k16
  have b16 := F16.binds (ps := ["_law_deck_here", "_law_letters_here", "_law_most"]) fun _ _ _ _ _ _ us hl => match us, hl with | [_, _, _], _ => rfl
  have F17 := fun_mk (st := s_l_machine) l17 c17 k17
  have b17 := F17.binds (ps := ["_law_deck_here", "_law_letters_here", "_law_few", "_law_most"]) fun _ _ _ _ _ _ us hl => match us, hl with | [_, _, _, _], _ => rfl
  have F18 := fun_mk (st := s_law) l18 c18 k18
  have T : Txt K mg ⟨f0, _, cA0, f1, _, f2, _, f3, _, f4, _, f5, _, cA5, tA5, f6, _, f7, _, f8, _, f9, _, f10, _, f11, _, f12, _, f13, _, f14, _, f15, _, f16, _, f17, _, fa, _⟩ := ⟨F0, PySem.W.mg_of X G a0, k0, b0, F1, PySem.W.mg_of X G a1, k1, b1, F2, PySem.W.mg_of X G a2, k2, b2, F3, PySem.W.mg_of X G a3, k3, b3, F4, PySem.W.mg_of X G a4, k4, b4, F5, H5, PySem.W.mg_of X G a5, k5, b5, F6, PySem.W.mg_of X G a6, k6, b6, F7, PySem.W.mg_of X G a7, k7, b7, F8, PySem.W.mg_of X G a8, k8, b8, F9, PySem.W.mg_of X G a9, k9, b9, F10, PySem.W.mg_of X G a10, k10, b10, F11, PySem.W.mg_of X G a11, k11, b11, F12, PySem.W.mg_of X G a12, k12, b12, F13, PySem.W.mg_of X G a13, k13, b13, F14, PySem.W.mg_of X G a14, k14, b14, F15, PySem.W.mg_of X G a15, k15, b15, F16, PySem.W.mg_of X G a16, k16, b16, F17, PySem.W.mg_of X G a17, k17, b17, F18, PySem.W.mg_of X G a18, PySem.W.mg_none_of X G z0, PySem.W.mg_none_of X G z1, PySem.W.mg_none_of X G z2, PySem.W.mg_none_of X G z3, PySem.W.mg_none_of X G z4, PySem.W.mg_none_of X G z5, PySem.W.mg_none_of X G z6, PySem.W.mg_none_of X G z7, PySem.W.mg_none_of X G z8, PySem.W.mg_none_of X G z9, PySem.W.mg_none_of X G z10⟩
  exact ⟨PySem.W.fnOf "law" "law" (defArgs s_law) (defBody s_law) (defScope s_law) .none kV18 dc18 pm18 an18 cd18 ct18, [tA5], (List.forall_mem_cons.mpr ⟨⟨⟨_, PySem.W.codeHd_of_K X H5⟩, lt5, ln5⟩, (fun _ h => nomatch h)⟩), fun s v => .of_eq rfl, fun base _ _ hB => ok_law T hB⟩
theorem walk {l : PySem.W.OpenLaw} {q : Program} {loose : List Str} {XP : (Str → Option Value) → Heap → Prop} {YP : World → Heap → Prop} {d : DefRec} {K : Params → PySem.W.Frag} (hn : l.most = some 63) (hdf : d.params.defaults = [])
    (hY : ∀ (w : World) (h : Heap), YP w h → (K w.params).In h)
    (F : ∀ (w : World) (mg : Str → Option Value) (fa : Addr) (h : Heap), (K w.params).In h → h.Ns mainGlobals mg → mg d.name = some (.ref fa) → YP w h →
      ∃ (fd : FuncData) (ts : List Addr), (∀ T ∈ ts, (∃ c, PySem.W.CodeHd h c T) ∧ h.get? T = some (PySem.W.tabObj #[]) ∧ (K w.params).lookup T = none) ∧ (∀ (s : Shared) (u : Value), BindsTo s fd ⟨[u], []⟩ [("_law_script", u)]) ∧
        ∀ base : Heap, (K w.params).In base → base.Ns mainGlobals mg → BltAt mg base → FnOk l.prog w (K w.params) mg base CX0 6 fa fd ["_law_script"] (spLaw (K w.params) ts)) :
    PySem.W.WalkO q loose XP YP l.row.toRowW d [] (fun f vs => PySem.call f vs) :=
  L2.walk_ofT (n := 63) (k := 6) (x := "_law_script") (sp := fun w ts => spLaw (K w.params) ts) hn (by decide) hdf ⟨rfl, by decide, by decide, rfl⟩ hY F (fun _ _ a ns _ hl hO hS => ⟨a, ns, rfl, hS, hl, hO, fun _ => rfl⟩)
end My
open PySem PySem.W PyProof.Rows
set_option maxRecDepth 100000 in
set_option maxHeartbeats 0 in
theorem PySem.Challenge.cw_figurejudge_k52_no_two_rooms_alike_holds : PySem.Challenge.rw_figurejudge_k52_no_two_rooms_alike.Holds := by
  w_on; o_law; k_head; (case hw => w_witness2)
  k_fill
  refine My.walk (l := PySem.Challenge.rw_figurejudge_k52_no_two_rooms_alike) rfl rfl (fun w h Y => PySem.W.km_in_of Y) ?F
  case F =>
    intro w mg fa h KX G hmg Y
    refine' My.all_mk KX G hmg ?a0 ?l0 ?c0 ?k0 ?ld0 ?a1 ?l1 ?c1 ?k1 ?a2 ?l2 ?c2 ?k2 ?a3 ?l3 ?c3 ?k3 ?a4 ?l4 ?c4 ?k4 ?a5 ?l5 ?c5 ?k5 ?lc5 ?lv5 ?le5 ?ln5 ?lt5 ?a6 ?l6 ?c6 ?k6 ?a7 ?l7 ?c7 ?k7 ?a8 ?l8 ?c8 ?k8 ?a9 ?l9 ?c9 ?k9 ?a10 ?l10 ?c10 ?k10 ?a11 ?l11 ?c11 ?k11 ?a12 ?l12 ?c12 ?k12 ?a13 ?l13 ?c13 ?k13 ?a14 ?l14 ?c14 ?k14 ?a15 ?l15 ?c15 ?k15 ?a16 ?l16 ?c16 ?k16 ?a17 ?l17 ?c17 ?k17 ?a18 ?l18 ?c18 ?k18 ?z0 ?z1 ?z2 ?z3 ?z4 ?z5 ?z6 ?z7 ?z8 ?z9 ?z10
    (case a0 => k_is)
    (case l0 => k_is)
    (case c0 => k_is)
    (case k0 => k_is)
    (case ld0 => k_is)
    (case a1 => k_is)
    (case l1 => k_is)
    (case c1 => k_is)
    (case k1 => k_is)
    (case a2 => k_is)
    (case l2 => k_is)
    (case c2 => k_is)
    (case k2 => k_is)
    (case a3 => k_is)
    (case l3 => k_is)
    (case c3 => k_is)
    (case k3 => k_is)
    (case a4 => k_is)
    (case l4 => k_is)
    (case c4 => k_is)
    (case k4 => k_is)
    (case a5 => k_is)
    (case l5 => k_is)
    (case c5 => k_is)
    (case k5 => k_is)
    (case lc5 => k_is)
    (case lv5 => rfl)
    (case le5 => rfl)
    (case ln5 => kernel_rfl)
    (case lt5 => exact PySem.W.km_tabs_of Y _ (by decide))
    (case a6 => k_is)
    (case l6 => k_is)
    (case c6 => k_is)
    (case k6 => k_is)
    (case a7 => k_is)
    (case l7 => k_is)
    (case c7 => k_is)
    (case k7 => k_is)
    (case a8 => k_is)
    (case l8 => k_is)
    (case c8 => k_is)
    (case k8 => k_is)
    (case a9 => k_is)
    (case l9 => k_is)
    (case c9 => k_is)
    (case k9 => k_is)
    (case a10 => k_is)
    (case l10 => k_is)
    (case c10 => k_is)
    (case k10 => k_is)
    (case a11 => k_is)
    (case l11 => k_is)
    (case c11 => k_is)
    (case k11 => k_is)
    (case a12 => k_is)
    (case l12 => k_is)
    (case c12 => k_is)
    (case k12 => k_is)
    (case a13 => k_is)
    (case l13 => k_is)
    (case c13 => k_is)
    (case k13 => k_is)
    (case a14 => k_is)
    (case l14 => k_is)
    (case c14 => k_is)
    (case k14 => k_is)
    (case a15 => k_is)
    (case l15 => k_is)
    (case c15 => k_is)
    (case k15 => k_is)
    (case a16 => k_is)
    (case l16 => k_is)
    (case c16 => k_is)
    (case k16 => k_is)
    (case a17 => k_is)
    (case l17 => k_is)
    (case c17 => k_is)
    (case k17 => k_is)
    (case a18 => k_is)
    (case l18 => k_is)
    (case c18 => k_is)
    (case k18 => k_is)
    (case z0 => k_is)
    (case z1 => k_is)
    (case z2 => k_is)
    (case z3 => k_is)
    (case z4 => k_is)
    (case z5 => k_is)
    (case z6 => k_is)
    (case z7 => k_is)
    (case z8 => k_is)
    (case z9 => k_is)
    (case z10 => k_is)
#print axioms PySem.Challenge.cw_figurejudge_k52_no_two_rooms_alike_holds
