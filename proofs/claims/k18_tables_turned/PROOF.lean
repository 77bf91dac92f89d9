import PyProof.Rows.All
import Wide.All
import OpenK.AllK
import Wide.FinOn
import Lean
import PyProof.EqAt
import PyProof.EqKinds
import PyProof.TupleCall
import PySem.Challenge.RW_planwell_k18_tables_turned
-- CHANGE: your row's module here, as the last of these rows
set_option Elab.async false
set_option linter.all false
set_option maxRecDepth 100000
namespace L2
open PySem PySem.Spec PyProof.Rows

abbrev Key := Sum Int Str
def keyIs : Key → Value → Bool
  | .inl k, v => Value.isInt k v
  | .inr x, v => Value.isStrOf x v
def keyH (w : World) : Key → Int
  | .inl k => hashInt k
  | .inr x => hashStr w x
theorem keyIs_shape : ∀ {k : Key} {v : Value}, keyIs k v = true → (∃ i t, k = Sum.inl i ∧ v = Value.int i t) ∨ (∃ x t, k = Sum.inr x ∧ v = Value.str x t)
  | .inl i, v, h => by
    obtain ⟨t, e⟩ := Value.isInt_shape (k := i) (v := v) h
    exact .inl ⟨i, t, rfl, e⟩
  | .inr x, v, h => by
    obtain ⟨t, e⟩ := Value.isStrOf_shape (x := x) (v := v) h
    exact .inr ⟨x, t, rfl, e⟩
theorem key_ll (a b : Int) : decide ((Sum.inl a : Key) = Sum.inl b) = (a == b) := by
  by_cases e : a = b
  · subst e; simp
  · have h : ¬ (Sum.inl a : Key) = Sum.inl b := fun q => e (Sum.inl.inj q)
    rw [decide_eq_false h]
    exact (beq_eq_false_iff_ne.mpr e).symm
theorem key_rr (a b : Str) : decide ((Sum.inr a : Key) = Sum.inr b) = decide (a = b) := by
  by_cases e : a = b
  · subst e; simp
  · have h : ¬ (Sum.inr a : Key) = Sum.inr b := fun q => e (Sum.inr.inj q)
    rw [decide_eq_false h, decide_eq_false e]
theorem key_lr (a : Int) (b : Str) : decide ((Sum.inl a : Key) = Sum.inr b) = false := decide_eq_false (fun q => nomatch q)
theorem key_rl (a : Str) (b : Int) : decide ((Sum.inr a : Key) = Sum.inl b) = false := decide_eq_false (fun q => nomatch q)

def mixKind (prog : Program) (w : World) : PySem.KeyKind prog w Key where
  is := keyIs
  hash := keyH w
  inj := fun v a b ha hb => by
    rcases keyIs_shape ha with ⟨i, t, rfl, rfl⟩ | ⟨x, t, rfl, rfl⟩
    · rcases keyIs_shape hb with ⟨j, u, rfl, e⟩ | ⟨y, u, rfl, e⟩
      · injection e with e1 _; rw [e1]
      · exact nomatch e
    · rcases keyIs_shape hb with ⟨j, u, rfl, e⟩ | ⟨y, u, rfl, e⟩
      · exact nomatch e
      · injection e with e1 _; rw [e1]
  byValue := fun k v h => by
    rcases keyIs_shape h with ⟨i, t, rfl, rfl⟩ | ⟨x, t, rfl, rfl⟩ <;> rfl
  pyHash := fun hv h => by
    rcases keyIs_shape hv with ⟨i, t, rfl, rfl⟩ | ⟨x, t, rfl, rfl⟩
    · exact wpAny_pyHash_int h
    · exact wpAny_pyHash_str h
  eqBool := fun hu hv h => by
    rcases keyIs_shape hu with ⟨i, t, rfl, rfl⟩ | ⟨x, t, rfl, rfl⟩
    · rcases keyIs_shape hv with ⟨j, u, rfl, rfl⟩ | ⟨y, u, rfl, rfl⟩
      · rw [key_ll] at h; exact wpAny_eqBool_int h
      · rw [key_lr] at h; exact SeqAt.EqAt.int_str i t y u _ _ _ _ h
    · rcases keyIs_shape hv with ⟨j, u, rfl, rfl⟩ | ⟨y, u, rfl, rfl⟩
      · rw [key_rl] at h; exact SeqAt.EqAt.str_int x t j u _ _ _ _ h
      · rw [key_rr] at h; exact wpAny_eqBool_str h
  «strs» := fun k x t v h => by
    rcases keyIs_shape h with ⟨i, u, rfl, e⟩ | ⟨y, u, rfl, e⟩
    · exact nomatch e
    · injection e with e1 _
      subst e1
      cases v <;> rfl

end L2

namespace L2
open PySem PySem.Spec PyProof.Rows

inductive V where
  | non | bl (b : Bool) | int (i : Int) | str (x : Str) | byt (b : Array UInt8) | flt (b : UInt64) | ref (a : Addr) | ty (n : String)
  deriving DecidableEq

def RelV : V → Value → Prop
  | .non, u => u = Value.none
  | .bl b, u => u = Value.bool b
  | .int i, u => ∃ t, u = Value.int i t
  | .str x, u => ∃ t, u = Value.str x t
  | .byt b, u => ∃ t, u = Value.bytes b t
  | .flt b, u => ∃ t, u = Value.float b t
  | .ref a, u => u = Value.ref a
  | .ty n, u => u = Value.type n

abbrev Vals : List V → List Value → Prop := Paired RelV
theorem Vals.length {xs : List V} {us : List Value} (r : Vals xs us) : xs.length = us.length := Paired.length r
theorem Vals.get : ∀ {xs : List V} {us : List Value} {i : Nat} {x : V}, Vals xs us → xs[i]? = some x → ∃ u, us[i]? = some u ∧ RelV x u
  | _, _, _, _, .nil, e => by simp at e
  | _, _, 0, _, .cons r _, e => by simp at e; subst e; exact ⟨_, rfl, r⟩
  | _, _, i + 1, x, .cons _ t, e => by
    obtain ⟨u, h1, h2⟩ := Vals.get (i := i) (x := x) t (by simpa using e)
    exact ⟨u, by simpa using h1, h2⟩
theorem Vals.set {x : V} {u : Value} (r : RelV x u) : ∀ {xs : List V} {us : List Value} (i : Nat), Vals xs us → Vals (xs.set i x) (us.set i u)
  | _, _, _, .nil => .nil
  | _, _, 0, .cons _ t => .cons r t
  | _, _, i + 1, .cons q t => .cons q (Vals.set r i t)
theorem Vals.append : ∀ {xs ys : List V} {us ws : List Value}, Vals xs us → Vals ys ws → Vals (xs ++ ys) (us ++ ws)
  | _, _, _, _, .nil, s => s
  | _, _, _, _, .cons r t, s => .cons r (Vals.append t s)
def RelO : Option V → Option Value → Prop
  | some v, some u => RelV v u
  | none, none => True
  | _, _ => False
def KV {κ : Type} : List (κ × V) → List (κ × Value) → Prop := Paired fun (p : κ × V) (q : κ × Value) => p.1 = q.1 ∧ RelV p.2 q.2

def kV : Key → V
  | .inl i => .int i
  | .inr x => .str x

def IsTupN (h : Heap) (a : Addr) (items : Array Value) : Prop := ∃ o, h.get? a = some o ∧ (o.cls = .type "tuple" ∧ o.dict = none) ∧ ∃ n, o.data = .seq items n
theorem IsTupN.tup {h : Heap} {a : Addr} {items : Array Value} (x : IsTupN h a items) : IsTup h a items := let ⟨o, e, c, r⟩ := x; ⟨o, e, c.1, r⟩
theorem IsTupN.lt {h : Heap} {a : Addr} {items : Array Value} (x : IsTupN h a items) : a < h.objs.size := x.tup.lt
theorem IsTupN.new (h : Heap) (items : Array Value) : IsTupN (h.push { cls := .type "tuple", data := .seq items }) h.objs.size items := ⟨_, Heap.get?_push_size _ rfl, ⟨rfl, rfl⟩, _, rfl⟩
inductive HO where
  /-- a list -/
  | lst (xs : List V)
  /-- a tuple (never changes) -/
  | tup (xs : List V)
  /-- a dict whose keys are ints and texts; one whose keys are tuples of ints and texts (the empty one is both) -/
  | dK (kvs : List (Key × V)) | dT (kvs : List (List Key × V))
  /-- a set of ints: its members, its size -/
  | set (S : Int → Bool) (n : Nat)
  /-- an instance of the class at C, its dict at dx, its attributes -/
  | ins (C dx : Addr) (fs : List (Str × V))
  /-- the dict of the instance at x -/
  | own (x : Addr)
  /-- the dict of an exception -/
  | xd (fs : List (Str × V))
  /-- a bound method, f of x -/
  | met (f x : Addr)
  /-- a range object lo, lo + 1, .. below hi -/
  | rng (lo hi : Int)
  /-- a thing that is known to the object (the script; a dict while a loop walks it): read, never written while it is so -/
  | frz (o : Obj) (u : HO)
  /-- a code object's table -/
  | tbl (ps : Array Value)
  /-- any other thing, by what is true of its one object (a def of one's own: SetO a S n := HO.ext fun h => ..) -/
  | ext (φ : Heap → Prop)

abbrev Hp := Addr → Option HO
def upd (H : Hp) (a : Addr) (o : HO) : Hp := fun b => if b = a then some o else H b
theorem upd_same {H : Hp} {a : Addr} {o : HO} : upd H a o a = some o := by unfold upd; rw [if_pos rfl]
theorem upd_ne {H : Hp} {a b : Addr} {o : HO} (h : b ≠ a) : upd H a o b = H b := by unfold upd; rw [if_neg h]
theorem ne_of {H : Hp} {a b : Addr} {o u : HO} (h : H a = some o) (h' : H b = some u) (d : o ≠ u) : a ≠ b := by
  intro e; subst e; rw [h] at h'; exact d (Option.some.inj h')
theorem ne_of_none {H : Hp} {a b : Addr} {o : HO} (h : H a = some o) (h' : H b = none) : a ≠ b := by
  intro e; subst e; rw [h] at h'; cases h'

section
variable (P : Program) (w : World)
def ObjOk (H : Hp) (h : Heap) (a : Addr) : HO → Prop
  | .lst xs => xs.length ≤ sizeLine ∧ ∃ (its : List Value) (n : Nat), Vals xs its ∧ h.get? a = some { cls := .type "list", data := .seq its.toArray n }
  | .tup xs => xs.length ≤ sizeLine ∧ ∃ its : List Value, Vals xs its ∧ IsTupN h a its.toArray
  | .dK kvs => kvs.length ≤ sizeLine ∧ (a == sysModules) = false ∧ ∃ vs, KV kvs vs ∧ h.DictOf (mixKind P w) a vs
  | .dT kvs => kvs.length ≤ sizeLine ∧ (a == sysModules) = false ∧ ∃ xs : List (List Key × Addr × Value),
      Paired (fun (p : List Key × V) (q : List Key × Addr × Value) => p.1 = q.1 ∧ H q.2.1 = some (.tup (p.1.map kV)) ∧ RelV p.2 q.2.2) kvs xs ∧
      ∃ o es ep, h.get? a = some o ∧ o.ExactDict ∧ o.data = .dict es ep ∧ es.toList = xs.map (entryOfKey (tupleKind (mixKind P w))) ∧ (xs.map (·.1)).Nodup
  | .set S n => h.SetOf (intKind P w) a S n
  | .ins C dx fs => H dx = some (.own a) ∧ fs.length ≤ 1000 ∧ dx ≠ a ∧ h.get? a = some (PySem.W.instObj C dx) ∧
      ∃ mA, h.Ns1 dx mA ∧ (∀ f, RelO (fs.lookup f) (mA f)) ∧ PySem.Within mA (fs.map (·.1))
  | .own _ => ∃ o, h.get? a = some o
  | .xd fs => ∃ mA, h.Ns1 a mA ∧ ∀ f, RelO (fs.lookup f) (mA f)
  | .rng lo hi => ∃ t u v, h.get? a = some { cls := .type "range", data := .fields #[.int lo t, .int hi u, .int 1 v] }
  | .frz o u => h.get? a = some o ∧ ObjOk H h a u
  | .tbl ps => h.get? a = some { cls := .none, data := .fields ps }
  | .met f x => h.get? a = some (PySem.W.methodObj (.ref f) (.ref x))
  | .ext φ => φ h ∧ (∃ o, h.get? a = some o) ∧ ∀ h1 h2 : Heap, φ h1 → (∀ o, h1.get? a = some o → h2.get? a = some o) → φ h2
def HOk (H : Hp) (h : Heap) : Prop := ∀ a o, H a = some o → ObjOk P w H h a o
end

section
variable {P : Program} {w : World} {H H' : Hp} {h h' : Heap} {a : Addr} {o : HO}
theorem ObjOk.lt (x : ObjOk P w H h a o) : a < h.objs.size := by
  cases o with
  | lst xs => obtain ⟨_, _, _, _, e⟩ := x; exact Heap.lt_size e
  | tup xs => obtain ⟨_, _, _, p⟩ := x; exact p.lt
  | dK kvs => obtain ⟨_, _, _, _, o, _, _, e, _⟩ := x; exact Heap.lt_size e
  | dT kvs => obtain ⟨_, _, _, _, o, _, _, e, _⟩ := x; exact Heap.lt_size e
  | set S n => obtain ⟨o, _, _, _, e, _⟩ := x; exact Heap.lt_size e
  | ins C dx fs => obtain ⟨_, _, _, e, _⟩ := x; exact Heap.lt_size e
  | own y => obtain ⟨_, e⟩ := x; exact Heap.lt_size e
  | xd fs => obtain ⟨_, ⟨_, _, _, e, _⟩, _⟩ := x; exact Heap.lt_size e
  | rng lo hi => obtain ⟨_, _, _, e⟩ := x; exact Heap.lt_size e
  | frz ob u => obtain ⟨e, _⟩ := x; exact Heap.lt_size e
  | tbl ps => exact Heap.lt_size (show h.get? a = some _ from x)
  | met f y => exact Heap.lt_size (show h.get? a = some _ from x)
  | ext φ => obtain ⟨_, ⟨_, e⟩, _⟩ := x; exact Heap.lt_size e
theorem Paired.mapP {α β : Type} {F G : α → β → Prop} : ∀ {l₁ : List α} {l₂ : List β}, Paired F l₁ l₂ → (∀ a b, F a b → G a b) → Paired G l₁ l₂
  | _, _, .nil, _ => .nil
  | _, _, .cons r t, f => .cons (f _ _ r) (Paired.mapP t f)
theorem ObjOk.stay (x : ObjOk P w H h a o) (k : ∀ b u, (b = a ∨ H b = some (.own a)) → h.get? b = some u → h'.get? b = some u)
    (ho : ∀ b, H b = some (.own a) → H' b = some (.own a)) (ht : ∀ b xs, H b = some (.tup xs) → H' b = some (.tup xs)) : ObjOk P w H' h' a o := by
  induction o with
  | lst xs => obtain ⟨z, its, n, r, e⟩ := x; exact ⟨z, its, n, r, k _ _ (.inl rfl) e⟩
  | tup xs => obtain ⟨z, its, r, ob, e, c⟩ := x; exact ⟨z, its, r, ob, k _ _ (.inl rfl) e, c⟩
  | dK kvs => obtain ⟨z, y, vs, r, ob, es, ep, e, c⟩ := x; exact ⟨z, y, vs, r, ob, es, ep, k _ _ (.inl rfl) e, c⟩
  | dT kvs =>
    obtain ⟨z, y, xs, r, ob, es, ep, e, c⟩ := x
    exact ⟨z, y, xs, Paired.mapP r fun p q z => ⟨z.1, ht _ _ z.2.1, z.2.2⟩, ob, es, ep, k _ _ (.inl rfl) e, c⟩
  | set S n => obtain ⟨ob, es, ep, t, e, c⟩ := x; exact ⟨ob, es, ep, t, k _ _ (.inl rfl) e, c⟩
  | ins C dx fs =>
    obtain ⟨d, z, ne, e, mA, ⟨od, es, ep, e2, c⟩, r⟩ := x
    exact ⟨ho _ d, z, ne, k _ _ (.inl rfl) e, mA, ⟨od, es, ep, k _ _ (.inr d) e2, c⟩, r⟩
  | own y => obtain ⟨ob, e⟩ := x; exact ⟨ob, k _ _ (.inl rfl) e⟩
  | xd fs => obtain ⟨mA, ⟨od, es, ep, e, c⟩, r⟩ := x; exact ⟨mA, ⟨od, es, ep, k _ _ (.inl rfl) e, c⟩, r⟩
  | rng lo hi => obtain ⟨t, u, v, e⟩ := x; exact ⟨t, u, v, k _ _ (.inl rfl) e⟩
  | frz ob u ih => obtain ⟨e, q⟩ := x; exact ⟨k _ _ (.inl rfl) e, ih q⟩
  | tbl ps =>
    have e : h.get? a = some { cls := .none, data := .fields ps } := x
    show h'.get? a = some { cls := .none, data := .fields ps }
    exact k a _ (.inl rfl) e
  | met f y =>
    have e : h.get? a = some (PySem.W.methodObj (.ref f) (.ref y)) := x
    show h'.get? a = some (PySem.W.methodObj (.ref f) (.ref y))
    exact k a _ (.inl rfl) e
  | ext φ => obtain ⟨p, ⟨o, e⟩, st⟩ := x; exact ⟨st _ _ p fun o q => k _ _ (.inl rfl) q, ⟨o, k _ _ (.inl rfl) e⟩, st⟩
theorem HOk.lt (x : HOk P w H h) (e : H a = some o) : a < h.objs.size := (x a o e).lt
theorem HOk.fresh (x : HOk P w H h) (e : h.objs.size ≤ a) : H a = none := by
  cases q : H a with
  | none => rfl
  | some u => exact absurd (Nat.lt_of_lt_of_le (x.lt q) e) (Nat.lt_irrefl _)
theorem HOk.kept (x : HOk P w H h) (k : ∀ b u, h.get? b = some u → h'.get? b = some u) : HOk P w H h' := fun a o e =>
  (x a o e).stay (fun b u _ q => k b u q) (fun _ q => q) fun _ _ q => q
theorem HOk.laid (x : HOk P w H h) (k : ∀ b u, h.get? b = some u → h'.get? b = some u) (hp : h.objs.size ≤ a) (new : ObjOk P w (upd H a o) h' a o) : HOk P w (upd H a o) h' := fun b u e => by
  have hn := x.fresh hp
  by_cases hb : b = a
  · subst hb; rw [upd_same] at e; cases e; exact new
  · rw [upd_ne hb] at e
    exact (x b u e).stay (fun c v _ q => k c v q) (fun c q => by rw [upd_ne (ne_of_none q hn)]; exact q) fun c xs q => by rw [upd_ne (ne_of_none q hn)]; exact q
end

def Rd (H : Hp) (a : Addr) (u : HO) : Prop := H a = some u ∨ ∃ o, H a = some (.frz o u)
theorem Rd.ok {P : Program} {w : World} {H : Hp} {h : Heap} {a : Addr} {u : HO} (r : Rd H a u) (x : HOk P w H h) : ObjOk P w H h a u := by
  rcases r with r | ⟨o, r⟩
  · exact x a u r
  · obtain ⟨_, q⟩ := x a _ r
    exact q
def Mut : Option HO → Prop
  | some (.lst _) => True
  | some (.dK _) => True
  | some (.dT _) => True
  | some (.set _ _) => True
  | some (.ins _ _ _) => True
  | some (.ext _) => True
  | _ => False
section
variable {P : Program} {w : World} {H : Hp} {h h' : Heap} {x e : Addr} {o' : HO}
theorem HOk.write (ok : HOk P w H h) (mu : Mut (H x)) (he : e = x ∨ H e = some (.own x)) (k : ∀ b u, b ≠ e → h.get? b = some u → h'.get? b = some u) (heo : ∃ u, h'.get? e = some u)
    (new : ObjOk P w (upd H x o') h' x o') : HOk P w (upd H x o') h' := fun b u q => by
  have nown : ∀ c y, H c = some (.own y) → c ≠ x := fun c y r z => by subst z; rw [r] at mu; exact mu
  have ntup : ∀ c xs, H c = some (.tup xs) → c ≠ x := fun c xs r z => by subst z; rw [r] at mu; exact mu
  by_cases hb : b = x
  · subst hb; rw [upd_same] at q; cases q; exact new
  · rw [upd_ne hb] at q
    by_cases hbe : b = e
    · have q' : H b = some (.own x) := by
        rcases he with z | z
        · exact absurd (hbe.trans z) hb
        · rw [hbe]; exact z
      rw [q] at q'; cases q'
      obtain ⟨v, hv⟩ := heo
      exact ⟨v, by rw [hbe]; exact hv⟩
    · refine (ok b u q).stay (fun c v hc r => k c v ?_ r) (fun c r => by rw [upd_ne (nown c b r)]; exact r) fun c xs r => by rw [upd_ne (ntup c xs r)]; exact r
      rcases hc with rfl | hc
      · exact hbe
      · rintro rfl
        rcases he with z | z
        · exact nown c b hc z
        · rw [hc] at z; cases z; exact hb rfl
end

structure Un (fs ex : List Addr) (H H' : Hp) (h h' : Heap) : Prop where
  keep : ∀ b o, h.get? b = some o → H b = none → b ∉ fs → b ∉ ex → h'.get? b = some o
  slot : ∀ b o, h.get? b = some o → H b = none → b ∈ fs → b ∉ ex → ∃ sl, h'.get? b = some { o with slots := sl }
  free : ∀ b o, h.get? b = some o → H b = none → b ∉ ex → H' b = none
  there : ∀ b o, h.get? b = some o → b ∉ ex → ∃ o', h'.get? b = some o'
  tups : ∀ b xs, H b = some (.tup xs) → H' b = some (.tup xs)
  frzs : ∀ b o u, H b = some (.frz o u) → H' b = some (.frz o u)
  tbls : ∀ b ps, H b = some (.tbl ps) → ∃ more, H' b = some (.tbl (ps ++ more))
section
variable {fs fs' ex ex' : List Addr} {H H1 H2 : Hp} {h h1 h2 h' : Heap} {a x e : Addr} {o : HO}
theorem Un.any (u : Un fs ex H H1 h h1) {b : Addr} {ob : Obj} (q : h.get? b = some ob) (n : H b = none) (hx : b ∉ ex) : ∃ sl, h1.get? b = some { ob with slots := sl } := by
  by_cases hb : b ∈ fs
  · exact u.slot b ob q n hb hx
  · exact ⟨ob.slots, u.keep b ob q n hb hx⟩
theorem Un.kept (k : ∀ b u, h.get? b = some u → h'.get? b = some u) : Un fs ex H H h h' :=
  ⟨fun b ob q _ _ _ => k b ob q, fun b ob q _ _ _ => ⟨ob.slots, k b ob q⟩, fun _ _ _ n _ => n, fun b ob q _ => ⟨ob, k b ob q⟩, fun _ _ q => q, fun _ _ _ q => q, fun _ ps q => ⟨#[], by rw [q]; simp⟩⟩
theorem Un.refl : Un fs ex H H h h := Un.kept fun _ _ q => q
theorem Un.laid (k : ∀ b u, h.get? b = some u → h'.get? b = some u) (hp : h.objs.size ≤ a) (hn : H a = none) : Un fs ex H (upd H a o) h h' where
  keep := fun b u q _ _ _ => k b u q
  slot := fun b u q _ _ _ => ⟨u.slots, k b u q⟩
  free := fun b u q n _ => by rw [upd_ne (Nat.ne_of_lt (Nat.lt_of_lt_of_le (Heap.lt_size q) hp))]; exact n
  there := fun b u q _ => ⟨u, k b u q⟩
  tups := fun b xs q => by rw [upd_ne (ne_of_none q hn)]; exact q
  frzs := fun b u xs q => by rw [upd_ne (ne_of_none q hn)]; exact q
  tbls := fun b ps q => ⟨#[], by rw [upd_ne (ne_of_none q hn), q]; simp⟩
theorem Un.write (mu : Mut (H x)) (he : e = x ∨ H e = some (.own x)) (k : ∀ b u, b ≠ e → h.get? b = some u → h'.get? b = some u) (heo : ∃ u, h'.get? e = some u) : Un fs ex H (upd H x o) h h' := by
  have hx : ∀ b, H b = none → b ≠ x := fun b n z => by subst z; rw [n] at mu; exact mu
  have hb : ∀ b, H b = none → b ≠ e := fun b n z => by
    subst z
    rcases he with r | r
    · exact hx b n r
    · rw [n] at r; cases r
  have hm : ∀ b u, H b = some u → ¬ Mut (some u) → b ≠ x := fun b u q nm z => by subst z; rw [q] at mu; exact nm mu
  refine ⟨fun b u q n _ _ => k b u (hb b n) q, fun b u q n _ _ => ⟨u.slots, k b u (hb b n) q⟩, fun b u q n _ => by rw [upd_ne (hx b n)]; exact n, fun b u q _ => ?_,
    fun b xs q => by rw [upd_ne (hm b _ q fun z => z)]; exact q, fun b u xs q => by rw [upd_ne (hm b _ q fun z => z)]; exact q, fun b ps q => ⟨#[], by rw [upd_ne (hm b _ q fun z => z), q]; simp⟩⟩
  by_cases hbe : b = e
  · subst hbe; exact heo
  · exact ⟨u, k b u hbe q⟩
end

def trk (h : Heap) (H : Hp) : List Addr := (List.range h.objs.size).filter fun a => (H a).isSome
def hidT (h : Heap) (H : Hp) : Heap := PySem.W.hideAll h (trk h H)
theorem hidT_size (h : Heap) (H : Hp) : (hidT h H).objs.size = h.objs.size := PySem.W.hideAll_size _ _
theorem hidT_get {h : Heap} {H : Hp} {b : Addr} {o : Obj} (e : h.get? b = some o) (n : H b = none) : (hidT h H).get? b = some o :=
  PySem.W.hideAll_get _ e fun hm => by
    have q : (H b).isSome = true := (List.mem_filter.mp hm).2
    rw [n] at q; simp at q
theorem of_hidT {h : Heap} {H : Hp} {b : Addr} {o : Obj} (e : (hidT h H).get? b = some o) : h.get? b = some o ∧ H b = none := by
  have e' : h.get? b = some o := PySem.W.of_hideAll (trk h H) e
  refine ⟨e', ?_⟩
  cases q : H b with
  | none => rfl
  | some x =>
    have hm : b ∈ trk h H := List.mem_filter.mpr ⟨List.mem_range.mpr (Heap.lt_size e'), by simp [q]⟩
    have z : (hidT h H).get? b = none := PySem.W.hideAll_none (trk h H) hm
    rw [z] at e; cases e

end L2

namespace L2
open PySem PySem.Spec PyProof.Rows

structure Mod (K : PySem.W.Frag) (mg : Str → Option Value) (base : Heap) : Prop where
  kin : K.In base
  glob : base.Ns mainGlobals mg
  blt : ∃ mb, base.Ns builtinsNs mb ∧ ∀ x : Str, x ≠ "__name__" → mb x = bootBuiltins x
  nolimit : base.NoLimit

structure Cx where
  prog : Program
  w : World
  K : PySem.W.Frag
  mg : Str → Option Value
  base : Heap
  A : Around
  N : List Str
  s₀ : Shared
  H₀ : Hp
  env : Env
  outer : List Env
  stack : List Env
  ex : List Addr
  fn : Str → Bool
  calm : Bool
  pn : List (Addr × Obj)
  xe : Value → Shared → Prop
def frs (l : List Env) : List Addr := l.filterMap (·.frame)
abbrev Cx.fs (X : Cx) : List Addr := frs X.outer

def Vis (sc : Scope) (x : Str) : Prop := sc.names.lookup x = some .local ∨ sc.names.lookup x = some .cell ∨ sc.names.lookup x = some .free
def Loc (sc : Scope) (x : Str) : Prop := sc.names.lookup x = some .local ∨ sc.names.lookup x = some .cell
def Look (env : Env) (h : Heap) (m : Str → Option Value) (x : Str) (u : Value) : Prop :=
  (env.kindOf x = some .local ∧ m x = some u) ∨ ((env.kindOf x = some .cell ∨ env.kindOf x = some .free) ∧ ∃ c, env.cells.lookup x = some c ∧ h.IsCell c (some u))

structure Cx.Ok (X : Cx) : Prop where
  mod : Mod X.K X.mg X.base
  kind : X.env.scope.kind = .function
  glob : X.env.globals = mainGlobals
  blt : X.env.builtins = builtinsNs
  above : X.s₀.heap.objs.size ≤ X.env.locals
  inj : ∀ x y c, X.env.cells.lookup x = some c → X.env.cells.lookup y = some c → x = y
  has : ∀ x, (X.env.kindOf x = some .cell ∨ X.env.kindOf x = some .free) → ∃ c, X.env.cells.lookup x = some c
  cab : ∀ x c, X.fn x = true → X.env.cells.lookup x = some c → X.s₀.heap.objs.size ≤ c
  hd : X.calm = true → X.A.handled = none
  frames : X.A.frames = some X.stack
  stk : X.stack = X.outer ∨ (X.stack = X.env :: X.outer ∧ X.env.frame = some X.env.locals)
  exf : ∀ b ∈ X.ex, b ≠ X.env.locals ∧ ∀ x c, X.env.cells.lookup x = some c → c ≠ b
  bs : ∀ b o, X.base.get? b = some o → X.s₀.heap.get? b = some o ∧ X.H₀ b = none
  bsz : X.base.objs.size ≤ X.s₀.heap.objs.size
  noex : ∀ b o, X.base.get? b = some o → b ∉ X.ex
  exfs : ∀ b ∈ X.ex, b ∉ X.fs
  funs : X.s₀.heap.FunFrames X.base X.outer
  frf : ∀ b ∈ X.fs, X.H₀ b = none

structure Inv (X : Cx) (pins : List (Addr × Obj)) (σ : List (Option V)) (H : Hp) (s : Shared) : Prop where
  ok : X.Ok
  os : s.os = X.s₀.os
  bare : AllBare s.gens
  base : Un X.fs X.ex X.H₀ H X.s₀.heap s.heap
  loc : ∃ m, s.heap.Ns X.env.locals m ∧ ∀ (i : Nat) (x : Str) (v : V), X.N[i]? = some x → σ[i]? = some (some v) → Vis X.env.scope x → ∃ u, RelV v u ∧ Look X.env s.heap m x u
  cell : ∀ x c, X.env.cells.lookup x = some c → ∃ v, s.heap.IsCell c v
  free : H X.env.locals = none
  freeC : ∀ x c, X.env.cells.lookup x = some c → H c = none
  pin : ∀ p ∈ X.pn ++ pins, s.heap.get? p.1 = some p.2 ∧ H p.1 = none ∧ p.1 ≠ X.env.locals ∧ p.1 ∉ X.fs ∧ ∀ v, p.2.data ≠ .cell v
  hok : HOk X.prog X.w H s.heap
  len : σ.length = X.N.length

section
variable {X : Cx} {pins : List (Addr × Obj)} {σ : List (Option V)} {H H' : Hp} {s : Shared} {h' : Heap}

theorem Cx.Ok.nofr (ok : X.Ok) {b : Addr} {o : Obj} (e : X.base.get? b = some o) : b ∉ X.fs := fun hb => by
  have := (ok.funs.mem hb).1
  rw [e] at this; cases this
theorem Inv.bs (I : Inv X pins σ H s) : ∀ b o, X.base.get? b = some o → s.heap.get? b = some o ∧ H b = none := fun b o e =>
  ⟨I.base.keep b o (I.ok.bs b o e).1 (I.ok.bs b o e).2 (I.ok.nofr e) (I.ok.noex b o e), I.base.free b o (I.ok.bs b o e).1 (I.ok.bs b o e).2 (I.ok.noex b o e)⟩
theorem Inv.bk (I : Inv X pins σ H s) : ∀ b o, X.base.get? b = some o → s.heap.get? b = some o := fun b o e => (I.bs b o e).1
theorem Inv.mod (I : Inv X pins σ H s) : Mod X.K X.mg X.base := I.ok.mod
theorem Inv.kIn (I : Inv X pins σ H s) : X.K.In s.heap := I.ok.mod.kin.keeps I.bk
theorem Inv.lt (I : Inv X pins σ H s) : X.env.locals < s.heap.objs.size := let ⟨_, hn, _⟩ := I.loc; hn.lt
theorem Inv.sz (I : Inv X pins σ H s) : X.s₀.heap.objs.size ≤ s.heap.objs.size := Nat.le_trans I.ok.above (Nat.le_of_lt I.lt)
theorem Inv.nofs (I : Inv X pins σ H s) {a : Addr} (h : s.heap.objs.size ≤ a) : a ∉ X.fs := fun hb => by
  obtain ⟨_, o, ho, _⟩ := I.ok.funs.mem hb
  exact absurd (Nat.lt_of_lt_of_le (Heap.lt_size ho) (Nat.le_trans I.sz h)) (Nat.lt_irrefl _)
theorem Inv.cne (I : Inv X pins σ H s) : ∀ x c, X.env.cells.lookup x = some c → c ≠ X.env.locals := fun x c e z => by
  obtain ⟨v, o, ho, hd⟩ := I.cell x c e
  obtain ⟨m, ⟨o', es, ep, ho', hd', _⟩, _⟩ := I.loc
  rw [z, ho'] at ho; cases ho; rw [hd'] at hd; cases hd
theorem Inv.funs (I : Inv X pins σ H s) : s.heap.FunFrames X.base X.outer := by
  have all : ∀ (l : List Env), (∀ b ∈ frs l, b ∈ X.fs) → X.s₀.heap.FunFrames X.base l → s.heap.FunFrames X.base l := by
    intro l
    induction l with
    | nil => intro _ _; trivial
    | cons env r ih =>
      intro hs hl
      obtain ⟨hk, ⟨L, o, hf, hn, ho, hd⟩, hr⟩ := hl
      have hL : L ∈ X.fs := hs L (by unfold frs; rw [List.filterMap_cons, hf]; exact List.mem_cons_self)
      obtain ⟨sl, e⟩ := I.base.slot L o ho (I.ok.frf L hL) hL fun z => I.ok.exfs L z hL
      exact ⟨hk, ⟨L, _, hf, hn, e, hd⟩, ih (fun b hb => hs b (by unfold frs; rw [List.filterMap_cons, hf]; exact List.mem_cons_of_mem _ hb)) hr⟩
  exact all X.outer (fun _ hb => hb) I.ok.funs

theorem Inv.stack (I : Inv X pins σ H s) : s.heap.FunFrames X.base X.stack := by
  rcases I.ok.stk with e | ⟨e, hf⟩
  · rw [e]; exact I.funs
  · rw [e]
    obtain ⟨m, hn, _⟩ := I.loc
    refine .cons (by rw [I.ok.kind]; decide) hf hn ?_ I.funs
    exact Heap.get?_none_of_le (Nat.le_trans I.ok.bsz I.ok.above)
theorem Inv.stkSub (I : Inv X pins σ H s) : ∀ b ∈ frs X.stack, b ∈ X.env.locals :: X.fs := fun b hb => by
  rcases I.ok.stk with e | ⟨e, hf⟩
  · rw [e] at hb; exact List.mem_cons_of_mem _ hb
  · rw [e] at hb
    unfold frs at hb
    rw [List.filterMap_cons, hf] at hb
    exact hb
theorem Inv.stkFree (I : Inv X pins σ H s) : ∀ b ∈ frs X.stack, H b = none := fun b hb => by
  rcases List.mem_cons.mp (I.stkSub b hb) with e | hb
  · rw [e]; exact I.free
  · obtain ⟨_, o, ho, _⟩ := I.ok.funs.mem hb
    exact I.base.free b o ho (I.ok.frf b hb) fun z => I.ok.exfs b z hb

theorem Inv.step {g' : Array GenState} {t' : Nat} {d' : Drawn} {ch : List Addr} (I : Inv X pins σ H s)
    (hch : ∀ b ∈ ch, (b ∈ X.ex ∨ X.s₀.heap.objs.size ≤ b) ∧ b ≠ X.env.locals ∧ (∀ x c, X.env.cells.lookup x = some c → c ≠ b) ∧ ∀ p ∈ X.pn ++ pins, p.1 ≠ b)
    (keep : ∀ b o, b ≠ X.env.locals → b ∉ X.fs → b ∉ ch → s.heap.get? b = some o → H b = none → h'.get? b = some o)
    (slot : ∀ b o, b ≠ X.env.locals → b ∈ X.fs → b ∉ ch → s.heap.get? b = some o → H b = none → ∃ sl, h'.get? b = some { o with slots := sl }) (free : ∀ b o, b ∉ ch → s.heap.get? b = some o → H b = none → H' b = none)
    (there : ∀ b o, b ∉ ch → s.heap.get? b = some o → ∃ o', h'.get? b = some o')
    (tups : ∀ b xs, H b = some (.tup xs) → H' b = some (.tup xs)) (frzs : ∀ b o u, H b = some (.frz o u) → H' b = some (.frz o u)) (tbls : ∀ b ps, H b = some (.tbl ps) → ∃ more, H' b = some (.tbl (ps ++ more)))
    (ns : ∀ m, s.heap.Ns X.env.locals m → h'.Ns X.env.locals m) (hok : HOk X.prog X.w H' h') (hg : AllBare g') :
    Inv X pins σ H' { s with heap := h', gens := g', drawn := d', toks := t' } := by
  have neL : ∀ b o, X.s₀.heap.get? b = some o → b ≠ X.env.locals := fun b o e => Nat.ne_of_lt (Nat.lt_of_lt_of_le (Heap.lt_size e) I.ok.above)
  have neC : ∀ b o, X.s₀.heap.get? b = some o → b ∉ X.ex → b ∉ ch := fun b o e hx hb => by
    rcases (hch b hb).1 with z | z
    · exact hx z
    · exact absurd (Nat.lt_of_lt_of_le (Heap.lt_size e) z) (Nat.lt_irrefl _)
  have cellK : ∀ x c, X.env.cells.lookup x = some c → ∀ v, s.heap.IsCell c v → h'.IsCell c v := fun x c e v ⟨o, ho, hd⟩ => by
    have nch : c ∉ ch := fun z => (hch c z).2.2.1 x c e rfl
    by_cases hc : c ∈ X.fs
    · obtain ⟨sl, q⟩ := slot c o (I.cne x c e) hc nch ho (I.freeC x c e)
      exact ⟨_, q, hd⟩
    · exact ⟨o, keep c o (I.cne x c e) hc nch ho (I.freeC x c e), hd⟩
  refine ⟨I.ok, I.os, hg, ⟨fun b o e n hb hx => ?_, fun b o e n hb hx => ?_, fun b o e n hx => ?_, fun b o e hx => ?_, fun b xs e => tups b xs (I.base.tups b xs e), fun b o xs e => frzs b o xs (I.base.frzs b o xs e), fun b ps e => ?_⟩, ?_, fun x c e => ?_, ?_, fun x c e => ?_, fun p hp => ?_, hok, I.len⟩
  · exact keep b o (neL b o e) hb (neC b o e hx) (I.base.keep b o e n hb hx) (I.base.free b o e n hx)
  · obtain ⟨sl, e1⟩ := I.base.slot b o e n hb hx
    obtain ⟨sl', e2⟩ := slot b _ (neL b o e) hb (neC b o e hx) e1 (I.base.free b o e n hx)
    exact ⟨sl', e2⟩
  · obtain ⟨o', e1⟩ := I.base.there b o e hx
    exact free b o' (neC b o e hx) e1 (I.base.free b o e n hx)
  · obtain ⟨o', e1⟩ := I.base.there b o e hx
    exact there b o' (neC b o e hx) e1
  · obtain ⟨m1, e1⟩ := I.base.tbls b ps e
    obtain ⟨m2, e2⟩ := tbls b _ e1
    exact ⟨m1 ++ m2, by rw [e2, Array.append_assoc]⟩
  · obtain ⟨m, hn, hl⟩ := I.loc
    refine ⟨m, ns m hn, fun i x v e1 e2 e3 => ?_⟩
    obtain ⟨u, r, l⟩ := hl i x v e1 e2 e3
    refine ⟨u, r, ?_⟩
    rcases l with l | ⟨k, c, e, z⟩
    · exact .inl l
    · exact .inr ⟨k, c, e, cellK x c e _ z⟩
  · obtain ⟨v, z⟩ := I.cell x c e
    exact ⟨v, cellK x c e v z⟩
  · obtain ⟨m, ⟨o, _, _, ho, _⟩, _⟩ := I.loc
    exact free _ o (fun z => (hch _ z).2.1 rfl) ho I.free
  · obtain ⟨v, o, ho, hd⟩ := I.cell x c e
    exact free c o (fun z => (hch c z).2.2.1 x c e rfl) ho (I.freeC x c e)
  · obtain ⟨e, n, ne, nf, d⟩ := I.pin p hp
    have nch : p.1 ∉ ch := fun z => (hch p.1 z).2.2.2 p hp rfl
    exact ⟨keep p.1 p.2 ne nf nch e n, free p.1 p.2 nch e n, ne, nf, d⟩
theorem Inv.un {t' : Nat} (I : Inv X pins σ H s) (u : Un X.fs [] H H' s.heap h') (hok : HOk X.prog X.w H' h') : Inv X pins σ H' { s with heap := h', toks := t' } := by
  obtain ⟨m, ⟨o, es, ep, ho, r⟩, _⟩ := id I.loc
  obtain ⟨sl, hL⟩ := u.any ho I.free (by simp)
  exact I.step (g' := s.gens) (d' := s.drawn) (ch := []) (fun _ z => nomatch z) (fun b o _ hb _ e n => u.keep b o e n hb (by simp)) (fun b o _ hb _ e n => u.slot b o e n hb (by simp)) (fun b o _ e n => u.free b o e n (by simp)) (fun b o _ e => u.there b o e (by simp)) u.tups u.frzs u.tbls (fun m' hm => by
    obtain ⟨o', es', ep', ho', r'⟩ := hm
    rw [ho] at ho'; cases ho'
    exact ⟨_, es', ep', hL, r'⟩) hok I.bare
theorem Inv.call {g' : Array GenState} {t' : Nat} {d' : Drawn} {ch : List Addr} (I : Inv X pins σ H s) (u : Un (frs X.stack) ch H H' s.heap h') (hok : HOk X.prog X.w H' h') (hg : AllBare g')
    (hch : ∀ b ∈ ch, (b ∈ X.ex ∨ X.s₀.heap.objs.size ≤ b) ∧ b ≠ X.env.locals ∧ (∀ x c, X.env.cells.lookup x = some c → c ≠ b) ∧ ∀ p ∈ X.pn ++ pins, p.1 ≠ b) :
    Inv X pins σ H' { s with heap := h', gens := g', drawn := d', toks := t' } := by
  obtain ⟨m, ⟨o, es, ep, ho, r⟩, _⟩ := id I.loc
  obtain ⟨sl, hL⟩ := u.any ho I.free fun z => (hch _ z).2.1 rfl
  exact I.step (ch := ch) hch (fun b o hL hb hc e n => u.keep b o e n (fun z => (List.mem_cons.mp (I.stkSub b z)).elim hL hb) hc) (fun b o _ _ hc e n => u.any e n hc) (fun b o hc e n => u.free b o e n hc) (fun b o hc e => u.there b o e hc) u.tups u.frzs u.tbls (fun m' hm => by
    obtain ⟨o', es', ep', ho', r'⟩ := hm
    rw [ho] at ho'; cases ho'
    exact ⟨_, es', ep', hL, r'⟩) hok hg
theorem Inv.turned {t' : Nat} {it : Addr} (I : Inv X pins σ H s) (k : ∀ b o, b ≠ it → s.heap.get? b = some o → h'.get? b = some o) (hn : H it = none) (hL : it ≠ X.env.locals)
    (h1 : it ∈ X.ex ∨ X.s₀.heap.objs.size ≤ it) (h2 : ∀ x c, X.env.cells.lookup x = some c → c ≠ it) (h3 : ∀ p ∈ X.pn ++ pins, p.1 ≠ it) : Inv X pins σ H { s with heap := h', toks := t' } := by
  have nit : ∀ b u, H b = some u → b ≠ it := fun b u e z => by rw [z, hn] at e; cases e
  refine I.step (g' := s.gens) (d' := s.drawn) (ch := [it]) (fun b hb => ?_) (fun b o _ _ hc e _ => k b o (fun z => hc (by simp [z])) e) (fun b o _ _ hc e _ => ⟨o.slots, k b o (fun z => hc (by simp [z])) e⟩) (fun _ _ _ _ n => n)
    (fun b o hc e => ⟨o, k b o (fun z => hc (by simp [z])) e⟩) (fun _ _ e => e) (fun _ _ _ e => e) (fun b ps e => ⟨#[], by rw [e]; simp⟩) (fun m hm => ?_) (fun b u e => ?_) I.bare
  · have e : b = it := by simpa using hb
    subst e
    exact ⟨h1, hL, h2, h3⟩
  · obtain ⟨o, es, ep, ho, r⟩ := hm
    exact ⟨o, es, ep, k _ o (Ne.symm hL) ho, r⟩
  · refine (I.hok b u e).stay (fun c v hc q => k c v ?_ q) (fun _ q => q) fun _ _ q => q
    rcases hc with z | z
    · rw [z]; exact nit b u e
    · exact nit c _ z
theorem Inv.tok (I : Inv X pins σ H s) (t : Nat) : Inv X pins σ H { s with toks := t } := I.un (h' := s.heap) (t' := t) Un.refl I.hok
theorem Inv.kept {t' : Nat} (I : Inv X pins σ H s) (k : ∀ b u, s.heap.get? b = some u → h'.get? b = some u) : Inv X pins σ H { s with heap := h', toks := t' } := I.un (Un.kept k) (I.hok.kept k)
theorem Inv.laid {a : Addr} {o : HO} {t' : Nat} (I : Inv X pins σ H s) (k : ∀ b u, s.heap.get? b = some u → h'.get? b = some u) (hp : s.heap.objs.size ≤ a) (new : ObjOk X.prog X.w (upd H a o) h' a o) :
    Inv X pins σ (upd H a o) { s with heap := h', toks := t' } := I.un (Un.laid k hp (I.hok.fresh hp)) (I.hok.laid k hp new)
theorem Inv.write {x e : Addr} {o : HO} {t' : Nat} (I : Inv X pins σ H s) (mu : Mut (H x)) (he : e = x ∨ H e = some (.own x)) (k : ∀ b u, b ≠ e → s.heap.get? b = some u → h'.get? b = some u) (heo : ∃ u, h'.get? e = some u)
    (new : ObjOk X.prog X.w (upd H x o) h' x o) : Inv X pins σ (upd H x o) { s with heap := h', toks := t' } := I.un (Un.write mu he k heo) (I.hok.write mu he k heo new)
theorem Inv.pins_of {pins' : List (Addr × Obj)} (I : Inv X pins σ H s) (h : ∀ p ∈ pins', s.heap.get? p.1 = some p.2 ∧ H p.1 = none ∧ p.1 ≠ X.env.locals ∧ p.1 ∉ X.fs ∧ ∀ v, p.2.data ≠ .cell v) : Inv X pins' σ H s :=
  ⟨I.ok, I.os, I.bare, I.base, I.loc, I.cell, I.free, I.freeC, fun p hp => (List.mem_append.mp hp).elim (fun z => I.pin p (List.mem_append_left _ z)) (h p), I.hok, I.len⟩

theorem nodup_ix {N : List Str} (hN : N.Nodup) {i j : Nat} {x : Str} (a : N[i]? = some x) (b : N[j]? = some x) : i = j := by
  obtain ⟨h1, e1⟩ := List.getElem?_eq_some_iff.mp a
  obtain ⟨h2, e2⟩ := List.getElem?_eq_some_iff.mp b
  exact (List.getElem_inj hN).mp (e1.trans e2.symm)

theorem store_ok2 {M : Model} {A : Around} {E : Value → Shared → Prop} {i : Nat} {x : Str} {v : V} {u : Value} {Q : Unit → Shared → Prop} (I : Inv X pins σ H s) (hN : X.N.Nodup) (hi : X.N[i]? = some x) (hx : Loc X.env.scope x) (r : RelV v u)
    (h : ∀ s', Inv X pins (σ.set i (some v)) H s' → (∃ a, Heap.SameBut a s.heap s'.heap ∧ (a = X.env.locals ∨ X.env.cells.lookup x = some a)) → Q () s') (hf : X.fn x = true ∨ X.env.scope.names.lookup x = some .local := by first | exact .inl rfl | exact .inr rfl | assumption) : wpAny M A (storeName X.env x u) Q E s := by
  obtain ⟨m, hn, hl⟩ := id I.loc
  have hcls : (X.env.scope.kind == .class || (X.env.scope.kind == .module && X.env.locals != X.env.globals)) = false := by rw [I.ok.kind]; rfl
  have hiσ : i < σ.length := by rw [I.len]; exact (List.getElem?_eq_some_iff.mp hi).1
  have cne := I.cne
  have tracked : ∀ {a : Addr} {h' : Heap}, (∃ o, s.heap.get? a = some o ∧ H a = none) → Heap.SameBut a s.heap h' → HOk X.prog X.w H h' := fun {a h'} ha hs b ob e => by
    obtain ⟨_, _, hfree⟩ := ha
    refine (I.hok b ob e).stay (fun c w' hc q => (hs.2 c ?_).trans q) (fun _ q => q) fun _ _ q => q
    rintro rfl
    rcases hc with rfl | hc
    · rw [hfree] at e; cases e
    · rw [hfree] at hc; cases hc
  rcases hx with hk | hk
  · refine wpAny_storeName_local hk hn (fun h' hn' hs => ?_) hcls
    obtain ⟨oL, _, _, hoL, _⟩ := id hn
    refine h _ ⟨I.ok, I.os, I.bare, ⟨fun b o e n hb hx => ?_, fun b o e n hb hx => ?_, I.base.free, fun b o e hx => ?_, I.base.tups, I.base.frzs, I.base.tbls⟩, ⟨_, hn', fun j y v' e1 e2 e3 => ?_⟩, fun y c e => ?_, I.free, I.freeC, fun p hp => ?_, tracked ⟨oL, hoL, I.free⟩ hs, by simpa using I.len⟩ ⟨_, hs, .inl rfl⟩
    · exact (hs.2 b (Nat.ne_of_lt (Nat.lt_of_lt_of_le (Heap.lt_size e) I.ok.above))).trans (I.base.keep b o e n hb hx)
    · obtain ⟨sl, e1⟩ := I.base.slot b o e n hb hx
      exact ⟨sl, (hs.2 b (Nat.ne_of_lt (Nat.lt_of_lt_of_le (Heap.lt_size e) I.ok.above))).trans e1⟩
    · obtain ⟨o', e1⟩ := I.base.there b o e hx
      exact ⟨o', (hs.2 b (Nat.ne_of_lt (Nat.lt_of_lt_of_le (Heap.lt_size e) I.ok.above))).trans e1⟩
    · by_cases hj : j = i
      · subst hj
        rw [hi] at e1; cases e1
        rw [List.getElem?_set_self hiσ] at e2
        cases e2
        exact ⟨u, r, .inl ⟨hk, by simp⟩⟩
      · rw [List.getElem?_set_ne (Ne.symm hj)] at e2
        obtain ⟨u', r', q⟩ := hl j y v' e1 e2 e3
        refine ⟨u', r', ?_⟩
        rcases q with ⟨k, e⟩ | ⟨k, c, e, z⟩
        · refine .inl ⟨k, ?_⟩
          have : y ≠ x := fun e => hj (nodup_ix hN e1 (e ▸ hi))
          simp [this, e]
        · exact .inr ⟨k, c, e, z.sameBut hs (cne y c e)⟩
    · obtain ⟨w', z⟩ := I.cell y c e
      exact ⟨w', z.sameBut hs (cne y c e)⟩
    · obtain ⟨e, n, ne, nf, d⟩ := I.pin p hp
      exact ⟨(hs.2 p.1 ne).trans e, n, ne, nf, d⟩
  · have hfn : X.fn x = true := by
      rcases hf with z | z
      · exact z
      · rw [z] at hk; cases hk
    obtain ⟨c, hc⟩ := I.ok.has x (.inl hk)
    obtain ⟨w', z⟩ := I.cell x c hc
    refine wpAny_storeName_cell I.ok.kind hk hc z (fun h' hc' hs => ?_)
    obtain ⟨oc, hoc, hocd⟩ := id z
    refine h { s with heap := h' } ⟨I.ok, I.os, I.bare, ⟨fun b o e n hb hx => ?_, fun b o e n hb hx => ?_, I.base.free, fun b o e hx => ?_, I.base.tups, I.base.frzs, I.base.tbls⟩, ⟨m, hn.sameBut hs (Ne.symm (cne x c hc)), fun j y v' e1 e2 e3 => ?_⟩, fun y c' e => ?_, I.free, I.freeC, fun p hp => ?_, tracked ⟨oc, hoc, I.freeC x c hc⟩ hs, by simpa using I.len⟩ ⟨c, hs, .inr hc⟩
    · exact (hs.2 b (Nat.ne_of_lt (Nat.lt_of_lt_of_le (Heap.lt_size e) (I.ok.cab x c hfn hc)))).trans (I.base.keep b o e n hb hx)
    · obtain ⟨sl, e1⟩ := I.base.slot b o e n hb hx
      exact ⟨sl, (hs.2 b (Nat.ne_of_lt (Nat.lt_of_lt_of_le (Heap.lt_size e) (I.ok.cab x c hfn hc)))).trans e1⟩
    · obtain ⟨o', e1⟩ := I.base.there b o e hx
      exact ⟨o', (hs.2 b (Nat.ne_of_lt (Nat.lt_of_lt_of_le (Heap.lt_size e) (I.ok.cab x c hfn hc)))).trans e1⟩
    · by_cases hj : j = i
      · subst hj
        rw [hi] at e1; cases e1
        rw [List.getElem?_set_self hiσ] at e2
        cases e2
        exact ⟨u, r, .inr ⟨.inl hk, c, hc, hc'⟩⟩
      · rw [List.getElem?_set_ne (Ne.symm hj)] at e2
        obtain ⟨u', r', q⟩ := hl j y v' e1 e2 e3
        refine ⟨u', r', ?_⟩
        rcases q with q | ⟨k, c', e, z'⟩
        · exact .inl q
        · refine .inr ⟨k, c', e, z'.sameBut hs ?_⟩
          rintro rfl
          exact hj (nodup_ix hN e1 (I.ok.inj _ _ _ e hc ▸ hi))
    · by_cases hcc : c' = c
      · subst hcc; exact ⟨_, hc'⟩
      · obtain ⟨w2, z2⟩ := I.cell y c' e
        exact ⟨w2, z2.sameBut hs hcc⟩
    · obtain ⟨e, n, ne, nf, d⟩ := I.pin p hp
      refine ⟨(hs.2 p.1 ?_).trans e, n, ne, nf, d⟩
      intro q
      rw [q, hoc] at e
      have q' : oc = p.2 := Option.some.inj e
      exact d w' (by rw [← q']; exact hocd)
theorem store_ok {M : Model} {A : Around} {E : Value → Shared → Prop} {i : Nat} {x : Str} {v : V} {u : Value} {Q : Unit → Shared → Prop} (I : Inv X pins σ H s) (hN : X.N.Nodup) (hi : X.N[i]? = some x) (hx : Loc X.env.scope x) (r : RelV v u)
    (h : ∀ s', Inv X pins (σ.set i (some v)) H s' → Q () s') (hf : X.fn x = true ∨ X.env.scope.names.lookup x = some .local := by first | exact .inl rfl | exact .inr rfl | assumption) : wpAny M A (storeName X.env x u) Q E s :=
  store_ok2 I hN hi hx r (fun s' I' _ => h s' I') hf
theorem Inv.call' {s' : Shared} {ch : List Addr} (I : Inv X pins σ H s) (ho : s'.os = s.os) (u : Un (frs X.stack) ch H H' s.heap s'.heap) (hok : HOk X.prog X.w H' s'.heap) (hg : AllBare s'.gens)
    (hch : ∀ b ∈ ch, (b ∈ X.ex ∨ X.s₀.heap.objs.size ≤ b) ∧ b ≠ X.env.locals ∧ (∀ x c, X.env.cells.lookup x = some c → c ≠ b) ∧ ∀ p ∈ X.pn ++ pins, p.1 ≠ b) : Inv X pins σ H' s' := by
  obtain ⟨h', g', d', t', o'⟩ := s'
  have e : o' = s.os := ho
  subst e
  exact I.call (g' := g') (t' := t') (d' := d') u hok hg hch
end

abbrev XK := Value → Option Addr → Hp → Prop
abbrev St := List (Option V)
abbrev VK := V → Hp → Prop
abbrev TE := St → Hp → VK → Prop
abbrev TT := St → Hp → (Bool → Hp → Prop) → Prop
abbrev TA := St → Hp → (List V → Hp → Prop) → Prop
structure Ends where
  nx : St → Hp → Prop
  rt : VK
  bk : St → Hp → Prop := fun _ _ => False
  ct : St → Hp → Prop := fun _ _ => False
abbrev TS := Ends → St → Hp → Prop

def EP (X : Cx) (pins : List (Addr × Obj)) (σ : St) (Q : VK) (u : Value) (s' : Shared) : Prop := ∃ v H', Inv X pins σ H' s' ∧ RelV v u ∧ Q v H'
def TP (X : Cx) (pins : List (Addr × Obj)) (σ : St) (Q : Bool → Hp → Prop) (b : Bool) (s' : Shared) : Prop := ∃ H', Inv X pins σ H' s' ∧ Q b H'
def AP (X : Cx) (pins : List (Addr × Obj)) (σ : St) (Q : List V → Hp → Prop) (us : List Value) (s' : Shared) : Prop := ∃ vs H', Inv X pins σ H' s' ∧ Vals vs us ∧ Q vs H'
def SP (X : Cx) (pins : List (Addr × Obj)) (D : Ends) (f : Flow) (s' : Shared) : Prop :=
  match f with
  | .next => ∃ σ' H', Inv X pins σ' H' s' ∧ D.nx σ' H'
  | .brk => ∃ σ' H', Inv X pins σ' H' s' ∧ D.bk σ' H'
  | .cont => ∃ σ' H', Inv X pins σ' H' s' ∧ D.ct σ' H'
  | .ret u => ∃ v σ' H', Inv X pins σ' H' s' ∧ RelV v u ∧ D.rt v H'

def PE (X : Cx) (e : Expr) (t : TE) : Prop :=
  ∀ (pins : List (Addr × Obj)) (s : Shared) (σ : St) (H : Hp) (Q : VK), Inv X pins σ H s → t σ H Q → wpAny (model X.prog X.w) X.A (eval e X.env) (EP X pins σ Q) X.xe s
def PT (X : Cx) (e : Expr) (t : TT) : Prop :=
  ∀ (pins : List (Addr × Obj)) (s : Shared) (σ : St) (H : Hp) (Q : Bool → Hp → Prop), Inv X pins σ H s → t σ H Q → wpAny (model X.prog X.w) X.A (isTrue e X.env (eval e X.env)) (TP X pins σ Q) X.xe s
def PW (X : Cx) (e : Expr) (t : TT) : Prop :=
  ∀ (whole : Sem Value) (pins : List (Addr × Obj)) (s : Shared) (σ : St) (H : Hp) (Q : Bool → Hp → Prop), Inv X pins σ H s → t σ H Q → wpAny (model X.prog X.w) X.A (isTrue e X.env whole) (TP X pins σ Q) X.xe s
theorem PW.pt {X : Cx} {e : Expr} {t : TT} (h : PW X e t) : PT X e t := h _
def PA (X : Cx) (es : List Expr) (t : TA) : Prop :=
  ∀ (pos : Pos) (pins : List (Addr × Obj)) (s : Shared) (σ : St) (H : Hp) (Q : List V → Hp → Prop), Inv X pins σ H s → t σ H Q → wpAny (model X.prog X.w) X.A (spliced (backTo pos (starEach es X.env))) (AP X pins σ Q) X.xe s
def PS (X : Cx) (st : Stmt) (t : TS) : Prop :=
  ∀ (pins : List (Addr × Obj)) (s : Shared) (σ : St) (H : Hp) (D : Ends), Inv X pins σ H s → t D σ H → wpAny (model X.prog X.w) X.A (exec st X.env) (SP X pins D) X.xe s
def PSs (X : Cx) (st : List Stmt) (t : TS) : Prop :=
  ∀ (pins : List (Addr × Obj)) (s : Shared) (σ : St) (H : Hp) (D : Ends), Inv X pins σ H s → t D σ H → wpAny (model X.prog X.w) X.A (execs st X.env) (SP X pins D) X.xe s
theorem thn {α : Type} {t : Sem α} {Q Q' : α → Shared → Prop} {M : Model} {A : Around} {E : Value → Shared → Prop} {s : Shared} (h : wpAny M A t Q E s) (hQ : ∀ a s, Q a s → Q' a s) : wpAny M A t Q' E s := wpAny_mono h hQ fun _ _ x => x
end L2

namespace L2
open PySem PySem.Spec PyProof.Rows
section
variable {X : Cx}

def tVar (i : Nat) : TE := fun σ H Q => ∃ v, σ[i]? = some (some v) ∧ Q v H
def tC (v : V) : TE := fun _ H Q => Q v H
theorem pe_var {i : Nat} {x : Str} {pos : Pos} (hN : X.N[i]? = some x) (hv : Vis X.env.scope x) (hd : (x == ("__debug__" : Str)) = false := by decide) (hcd : (x == ("__classdict__" : Str)) = false := by decide) : PE X (.Name x pos) (tVar i) := by
  intro pins s σ H Q I h
  obtain ⟨v, e, h⟩ := h
  obtain ⟨m, hn, hl⟩ := I.loc
  obtain ⟨u, r, l⟩ := hl i x v hN e hv
  have fin : EP X pins σ Q u s := ⟨v, H, I, r, h⟩
  rcases l with ⟨hk, hm⟩ | ⟨hk, c, hc, hcell⟩
  · exact wpAny_Name (wpAny_loadName_local I.ok.kind hk hn hm fin) hd
  · rcases hk with hk | hk
    · exact wpAny_Name (wpAny_loadName_cell I.ok.kind hk hc hcell fin) hd
    · exact wpAny_Name (wpAny_loadName_free I.ok.kind hk hc hcell fin hcd) hd
theorem pe_int {i j pos} : PE X (.Constant (.int i) j pos) (tC (.int i)) := fun _ _ _ H _ I h => wpAny_Constant_int ⟨.int i, H, I.tok _, ⟨_, rfl⟩, h⟩
theorem pe_bl {b j pos} : PE X (.Constant (.bool b) j pos) (tC (.bl b)) := fun _ _ _ H _ I h => Constant_bool ⟨.bl b, H, I, rfl, h⟩
theorem pe_non {j pos} : PE X (.Constant .none j pos) (tC .non) := fun _ _ _ H _ I h => Constant_none ⟨.non, H, I, rfl, h⟩
theorem pe_str {x j pos} : PE X (.Constant (.str x) j pos) (tC (.str x)) := fun _ _ _ H _ I h => Calls.Constant_str ⟨.str x, H, I.tok _, ⟨_, rfl⟩, h⟩

def Gl (X : Cx) (x : Str) : Prop := X.env.kindOf x = some .globalImplicit
theorem ld_glob {E : Value → Shared → Prop} {pins : List (Addr × Obj)} {s : Shared} {σ : St} {H : Hp} {x : Str} {u : Value} {pos : Pos} {Q : Value → Shared → Prop} (I : Inv X pins σ H s) (hg : Gl X x) (hm : X.mg x = some u) (h : Q u s)
    (hd : (x == ("__debug__" : Str)) = false := by decide) : wpAny (model X.prog X.w) X.A (eval (.Name x pos) X.env) Q E s :=
  Calls.Name_function_global I.ok.kind hg (Calls.loadGlobal_global (by rw [I.ok.glob]; exact I.mod.glob.keeps I.bk) hm h) hd
theorem ld_blt {E : Value → Shared → Prop} {pins : List (Addr × Obj)} {s : Shared} {σ : St} {H : Hp} {x : Str} {u : Value} {pos : Pos} {Q : Value → Shared → Prop} (I : Inv X pins σ H s) (hg : Gl X x) (hm : X.mg x = none) (hv : bootBuiltins x = some u) (h : Q u s)
    (hn : x ≠ "__name__" := by decide) (hd : (x == ("__debug__" : Str)) = false := by decide) : wpAny (model X.prog X.w) X.A (eval (.Name x pos) X.env) Q E s := by
  obtain ⟨mb, h1, h2⟩ := I.mod.blt
  exact Calls.Name_function_global I.ok.kind hg (Calls.loadGlobal_builtin (by rw [I.ok.glob]; exact I.mod.glob.keeps I.bk) hm (by rw [I.ok.blt]; exact h1.keeps I.bk) ((h2 x hn).trans hv) h) hd
theorem pe_bltn {x : Str} {v : V} {u : Value} {pos : Pos} (hg : Gl X x) (hm : X.mg x = none) (hv : bootBuiltins x = some u) (r : RelV v u) (hn : x ≠ "__name__" := by decide) (hd : (x == ("__debug__" : Str)) = false := by decide) : PE X (.Name x pos) (tC v) :=
  fun _ _ _ H _ I h => ld_blt I hg hm hv ⟨v, H, I, r, h⟩ hn hd

variable {a b : Expr} {ta tb : TE} {pos : Pos}
def tB (t : TE) : TT := fun σ H Q => t σ H fun x H1 => ∃ c, x = .bl c ∧ Q c H1
theorem pt_val {e : Expr} {t : TE} (h : PE X e t) (he : ∀ whole, isTrue e X.env whole = (do let v ← whole; standAt e.pos; holding [v] (truthy v)) := by intro _; rfl) : PT X e (tB t) := by
  intro pins s σ H Q I hw
  refine isTrue_plain (thn (h pins s σ H _ I hw) fun v s1 ⟨x, H1, I1, r1, q1⟩ => ?_) (he _)
  obtain ⟨d, rfl, q⟩ := q1
  cases r1
  exact wpAny_truthy_bool ⟨H1, I1, q⟩

variable {tA tB' : TT} {rest : List Expr}
def tOr (t u : TT) : TT := fun σ H Q => t σ H fun c H1 => if c = true then Q true H1 else u σ H1 Q
def tNot (t : TT) : TT := fun σ H Q => t σ H fun c H1 => Q (!c) H1
theorem pw_or1 (ha : PT X a tA) : PW X (.BoolOp .Or [a] pos) tA := by
  intro wh pins s σ H Q I h
  refine isTrue_or (thn (ha pins s σ H Q I h) fun c s1 e => ?_)
  cases c with
  | false => exact isTrue_or_nil e
  | true => exact e
theorem pw_or (ha : PT X a tA) (hb : PW X (.BoolOp .Or (b :: rest) pos) tB') : PW X (.BoolOp .Or (a :: b :: rest) pos) (tOr tA tB') := by
  intro wh pins s σ H Q I h
  refine isTrue_or (thn (ha pins s σ H _ I h) fun c s1 ⟨H1, I1, q1⟩ => ?_)
  cases c with
  | true => exact ⟨H1, I1, q1⟩
  | false => exact hb wh pins s1 σ H1 Q I1 q1
theorem pt_not (ha : PT X a tA) : PT X (.UnaryOp .Not a pos) (tNot tA) := by
  intro pins s σ H Q I h
  exact isTrue_not (ha pins s σ H (fun c H1 => Q (!c) H1) I h)
def tAndV (ta tb : TE) : TE := fun σ H Q => ta σ H fun x H1 => ∃ c, x = .bl c ∧ if c = true then tb σ H1 Q else Q (.bl false) H1
def tOrV (ta tb : TE) : TE := fun σ H Q => ta σ H fun x H1 => ∃ c, x = .bl c ∧ if c = true then Q (.bl true) H1 else tb σ H1 Q
theorem pe_one {op} {t : TE} (h : PE X a t) : PE X (.BoolOp op [a] pos) t := fun pins s σ H Q I hw => BoolOp_one (h pins s σ H Q I hw)
theorem pe_and (ha : PE X a ta) (hb : PE X (.BoolOp .And (b :: rest) pos) tb) : PE X (.BoolOp .And (a :: b :: rest) pos) (tAndV ta tb) := by
  intro pins s σ H Q I h
  refine BoolOp_and (thn (ha pins s σ H _ I h) fun v s1 ⟨x, H1, I1, r1, q1⟩ => ?_)
  obtain ⟨c, rfl, q1⟩ := q1
  cases r1
  refine wpAny_truthy_bool ?_
  cases c with
  | true => exact hb pins s1 σ H1 Q I1 q1
  | false => exact ⟨.bl false, H1, I1, rfl, q1⟩
theorem pe_or (ha : PE X a ta) (hb : PE X (.BoolOp .Or (b :: rest) pos) tb) : PE X (.BoolOp .Or (a :: b :: rest) pos) (tOrV ta tb) := by
  intro pins s σ H Q I h
  refine BoolOp_or (thn (ha pins s σ H _ I h) fun v s1 ⟨x, H1, I1, r1, q1⟩ => ?_)
  obtain ⟨c, rfl, q1⟩ := q1
  cases r1
  refine wpAny_truthy_bool ?_
  cases c with
  | false => exact hb pins s1 σ H1 Q I1 q1
  | true => exact ⟨.bl true, H1, I1, rfl, q1⟩
def tIf (t : TT) (ta tb : TE) : TE := fun σ H Q => t σ H fun c H1 => if c = true then ta σ H1 Q else tb σ H1 Q
theorem pe_ifExp {c : Expr} (hc : PT X c tA) (ha : PE X a ta) (hb : PE X b tb) : PE X (.IfExp c a b pos) (tIf tA ta tb) := by
  intro pins s σ H Q I h
  refine wpAny_IfExp (thn (hc pins s σ H _ I h) fun d s1 ⟨H1, I1, q1⟩ => ?_)
  cases d with
  | true => exact ha pins s1 σ H1 Q I1 q1
  | false => exact hb pins s1 σ H1 Q I1 q1
end
end L2

namespace L2
open PySem PySem.Spec PyProof.Rows

def SqL (K : PySem.W.Frag) (H : Hp) (a : Addr) (xs : List V) : Prop :=
  Rd H a (.lst xs) ∨
    ∃ (o : Obj) (its : Array Value) (n : Nat), K.lookup a = some o ∧ o.cls = .type "list" ∧ o.dict = none ∧ o.data = .seq its n ∧ its.size ≤ sizeLine ∧ Vals xs its.toList
def SqT (K : PySem.W.Frag) (H : Hp) (a : Addr) (xs : List V) : Prop :=
  Rd H a (.tup xs) ∨
    ∃ (o : Obj) (its : Array Value) (n : Nat), K.lookup a = some o ∧ o.cls = .type "tuple" ∧ o.data = .seq its n ∧ its.size ≤ sizeLine ∧ Vals xs its.toList
def absV : Value → Option V
  | .none => some .non
  | .bool b => some (.bl b)
  | .int i _ => some (.int i)
  | .str x _ => some (.str x)
  | .bytes b _ => some (.byt b)
  | .float b _ => some (.flt b)
  | .ref a => some (.ref a)
  | .type n => some (.ty n)
  | _ => none
theorem RelV.abs {x : V} {u : Value} (r : RelV x u) : absV u = some x := by
  cases x with
  | non => cases r; rfl
  | bl _ => cases r; rfl
  | int _ => obtain ⟨t, rfl⟩ := r; rfl
  | str _ => obtain ⟨t, rfl⟩ := r; rfl
  | byt _ => obtain ⟨t, rfl⟩ := r; rfl
  | flt _ => obtain ⟨t, rfl⟩ := r; rfl
  | ref _ => cases r; rfl
  | ty _ => cases r; rfl
theorem RelV.inj {x y : V} {u : Value} (r : RelV x u) (q : RelV y u) : x = y := Option.some.inj (r.abs.symm.trans q.abs)
theorem Vals.inj : ∀ {xs ys : List V} {us : List Value}, Vals xs us → Vals ys us → xs = ys
  | _, _, _, .nil, .nil => rfl
  | _, _, _, .cons r t, .cons r' t' => by rw [r.inj r', Vals.inj t t']
section
variable {X : Cx} {pins : List (Addr × Obj)} {σ : St} {H : Hp} {s : Shared} {a : Addr} {xs ys : List V}
theorem SqL.of {K : PySem.W.Frag} (h : H a = some (.lst xs)) : SqL K H a xs := .inl (.inl h)
theorem SqT.of {K : PySem.W.Frag} (h : H a = some (.tup xs)) : SqT K H a xs := .inl (.inl h)
theorem Inv.list (I : Inv X pins σ H s) (h : SqL X.K H a xs) : ∃ its : List Value, Vals xs its ∧ PlainL s.heap a its.toArray ∧ xs.length ≤ sizeLine := by
  rcases h with h | ⟨o, its, n, hk, hc, hd, hs, hz, r⟩
  · obtain ⟨z, its, n, r, e⟩ := h.ok I.hok
    exact ⟨its, r, ⟨_, n, e, rfl, rfl, rfl⟩, z⟩
  · refine ⟨its.toList, r, ⟨o, n, I.kIn a o hk, hc, hd, by simpa using hs⟩, ?_⟩
    have e := r.length
    simp only [Array.length_toList] at e
    omega
theorem Inv.tuple (I : Inv X pins σ H s) (h : SqT X.K H a xs) : ∃ its : List Value, Vals xs its ∧ IsTup s.heap a its.toArray ∧ xs.length ≤ sizeLine := by
  rcases h with h | ⟨o, its, n, hk, hc, hs, hz, r⟩
  · obtain ⟨z, its, r, p⟩ := h.ok I.hok
    exact ⟨its, r, p.tup, z⟩
  · refine ⟨its.toList, r, ⟨o, I.kIn a o hk, hc, n, by simpa using hs⟩, ?_⟩
    have e := r.length
    simp only [Array.length_toList] at e
    omega
theorem Inv.list_inj (I : Inv X pins σ H s) (h : SqL X.K H a xs) (h' : SqL X.K H a ys) : xs = ys := by
  obtain ⟨its, r, ⟨o, n, e, _, _, d⟩, _⟩ := I.list h
  obtain ⟨its', r', ⟨o', n', e', _, _, d'⟩, _⟩ := I.list h'
  rw [e] at e'; cases e'
  rw [d] at d'
  injection d' with d1 _
  have : its = its' := by simpa using congrArg Array.toList d1
  subst this
  exact r.inj r'
theorem Inv.tuple_inj (I : Inv X pins σ H s) (h : SqT X.K H a xs) (h' : SqT X.K H a ys) : xs = ys := by
  obtain ⟨its, r, ⟨o, e, _, n, d⟩, _⟩ := I.tuple h
  obtain ⟨its', r', ⟨o', e', _, n', d'⟩, _⟩ := I.tuple h'
  rw [e] at e'; cases e'
  rw [d] at d'
  injection d' with d1 _
  have : its = its' := by simpa using congrArg Array.toList d1
  subst this
  exact r.inj r'
end

abbrev Cx.wish (X : Cx) (E : Value → Shared → Prop) : Cx := { X with xe := E }
abbrev Cx.nox (X : Cx) : Cx := X.wish fun _ _ => False
theorem Cx.Ok.wish {X : Cx} (ok : X.Ok) (E : Value → Shared → Prop) : (X.wish E).Ok :=
  ⟨ok.mod, ok.kind, ok.glob, ok.blt, ok.above, ok.inj, ok.has, ok.cab, ok.hd, ok.frames, ok.stk, ok.exf, ok.bs, ok.bsz, ok.noex, ok.exfs, ok.funs, ok.frf⟩
theorem Cx.Ok.unwish {X : Cx} {E : Value → Shared → Prop} (ok : (X.wish E).Ok) : X.Ok :=
  ⟨ok.mod, ok.kind, ok.glob, ok.blt, ok.above, ok.inj, ok.has, ok.cab, ok.hd, ok.frames, ok.stk, ok.exf, ok.bs, ok.bsz, ok.noex, ok.exfs, ok.funs, ok.frf⟩
section
variable {X : Cx} {pins : List (Addr × Obj)} {σ : St} {H : Hp} {s : Shared} {E : Value → Shared → Prop}
theorem Inv.wish (I : Inv X pins σ H s) (E : Value → Shared → Prop) : Inv (X.wish E) pins σ H s := ⟨I.ok.wish E, I.os, I.bare, I.base, I.loc, I.cell, I.free, I.freeC, I.pin, I.hok, I.len⟩
theorem Inv.unwish (I : Inv (X.wish E) pins σ H s) : Inv X pins σ H s := ⟨I.ok.unwish, I.os, I.bare, I.base, I.loc, I.cell, I.free, I.freeC, I.pin, I.hok, I.len⟩
theorem SP.unwish {D : Ends} {f : Flow} {s' : Shared} (h : SP (X.wish E) pins D f s') : SP X pins D f s' := by
  cases f with
  | next => obtain ⟨σ', H', I, q⟩ := h; exact ⟨σ', H', I.unwish, q⟩
  | brk => obtain ⟨σ', H', I, q⟩ := h; exact ⟨σ', H', I.unwish, q⟩
  | cont => obtain ⟨σ', H', I, q⟩ := h; exact ⟨σ', H', I.unwish, q⟩
  | ret u => obtain ⟨v, σ', H', I, r, q⟩ := h; exact ⟨v, σ', H', I.unwish, r, q⟩
theorem PSs.nox {st : List Stmt} {t : TS} (h : PSs X.nox st t) : PSs X st t := fun pins s σ H D I hw =>
  wpAny_mono (h pins s σ H D (I.wish _) hw) (fun _ _ q => q.unwish) fun _ _ z => False.elim z
end

section
variable {X : Cx} {st : Stmt} {rest : List Stmt} {t u : TS} {e : Expr} {te : TE} {pos : Pos}
def tNext : TS := fun D σ H => D.nx σ H
def tSeq (t u : TS) : TS := fun D σ H => t { D with nx := u D } σ H
theorem pss_nil : PSs X [] tNext := fun _ _ σ H _ I h => wpAny_execs_nil ⟨σ, H, I, h⟩
theorem pss_cons (h1 : PS X st t) (h2 : PSs X rest u) : PSs X (st :: rest) (tSeq t u) := by
  intro pins s σ H D I h
  refine wpAny_execs_cons (thn (h1 pins s σ H { D with nx := u D } I h) fun f s1 q => ?_)
  cases f with
  | next =>
    obtain ⟨σ', H', I', q⟩ := q
    exact h2 pins s1 σ' H' D I' q
  | ret v => exact q
  | brk => exact q
  | cont => exact q
theorem pss_one (h1 : PS X st t) : PSs X [st] t := by
  intro pins s σ H D I h
  refine wpAny_execs_cons (thn (h1 pins s σ H D I h) fun f s1 q => ?_)
  cases f with
  | next => exact wpAny_execs_nil q
  | ret v => exact q
  | brk => exact q
  | cont => exact q
theorem Inv.quiet {pins : List (Addr × Obj)} {σ : St} {H : Hp} {s : Shared} (I : Inv X pins σ H s) : interactive X.env = false := by simp [interactive, I.ok.kind]
def tDrop (te : TE) : TS := fun D σ H => te σ H fun _ H1 => D.nx σ H1
theorem ps_expr (he : PE X e te) (hs : swapsWith e none pos.line X.env = pure false := by rfl) : PS X (.Expr e pos) (tDrop te) := by
  intro pins s σ H D I h
  exact wpAny_Expr_any (thn (he pins s σ H _ I h) fun v s1 ⟨x, H1, I1, r1, q1⟩ => ⟨σ, H1, I1, q1⟩) I.quiet hs
def tRet (te : TE) : TS := fun D σ H => te σ H D.rt
theorem ps_ret (he : PE X e te) : PS X (.Return (some e) pos) (tRet te) := by
  intro pins s σ H D I h
  exact wpAny_Return_some (thn (he pins s σ H _ I h) fun v s1 ⟨x, H1, I1, r1, q1⟩ => ⟨x, σ, H1, I1, r1, q1⟩)
def tIfS (c : TT) (t u : TS) : TS := fun D σ H => c σ H fun b H1 => if b = true then t D σ H1 else u D σ H1
theorem ps_if {c : Expr} {a b : List Stmt} {tc : TT} (hc : PT X c tc) (ha : PSs X a t) (hb : PSs X b u) : PS X (.If c a b pos) (tIfS tc t u) := by
  intro pins s σ H D I h
  refine wpAny_If (thn (hc pins s σ H _ I h) fun d s1 ⟨H1, I1, q1⟩ => ?_)
  cases d with
  | true => exact ha pins s1 σ H1 D I1 q1
  | false => exact hb pins s1 σ H1 D I1 q1
def tNever : TS := fun _ _ _ => False
theorem pss_never {sts : List Stmt} : PSs X sts tNever := fun _ _ _ _ _ _ h => h.elim
end

abbrev TG := V → St → Hp → (St → Hp → Prop) → Prop
abbrev TGs := List V → St → Hp → (St → Hp → Prop) → Prop
def PG (X : Cx) (target : Expr) (t : TG) : Prop :=
  ∀ (pins : List (Addr × Obj)) (s : Shared) (σ : St) (H : Hp) (v : V) (u : Value) (Q : St → Hp → Prop), Inv X pins σ H s → RelV v u → t v σ H Q →
    wpAny (model X.prog X.w) X.A (assign target X.env u) (fun _ s' => ∃ σ' H', Inv X pins σ' H' s' ∧ Q σ' H') X.xe s
def PGs (X : Cx) (ts : List Expr) (t : TGs) : Prop :=
  ∀ (pins : List (Addr × Obj)) (s : Shared) (σ : St) (H : Hp) (vs : List V) (us : List Value) (Q : St → Hp → Prop), Inv X pins σ H s → Vals vs us → t vs σ H Q →
    wpAny (model X.prog X.w) X.A (assignInOrder ((assignEach ts X.env).map (·.2)) us) (fun _ s' => ∃ σ' H', Inv X pins σ' H' s' ∧ Q σ' H') X.xe s
abbrev TSet := V → V → V → Hp → (Hp → Prop) → Prop
def PSet (X : Cx) (t : TSet) : Prop :=
  ∀ (pins : List (Addr × Obj)) (s : Shared) (σ : St) (H : Hp) (o i v : V) (ov iv u : Value) (Q : Hp → Prop), Inv X pins σ H s → RelV o ov → RelV i iv → RelV v u → t o i v H Q →
    wpAny (model X.prog X.w) X.A (setItem ov iv u) (fun _ s' => ∃ H', Inv X pins σ H' s' ∧ Q H') X.xe s
section
variable {X : Cx} {pos : Pos}
def gName (i : Nat) : TG := fun v σ H Q => Q (σ.set i (some v)) H
theorem pg_name {i : Nat} {x : Str} (hN : X.N.Nodup) (hi : X.N[i]? = some x) (hx : Loc X.env.scope x) (hf : X.fn x = true ∨ X.env.scope.names.lookup x = some .local := by first | exact .inl rfl | exact .inr rfl | assumption) : PG X (.Name x pos) (gName i) := by
  intro pins s σ H v u Q I r h
  exact wpAny_assign_Name (store_ok I hN hi hx r (fun s' I' => ⟨_, H, I', h⟩) hf)
def gNil : TGs := fun vs σ H Q => vs = [] ∧ Q σ H
def gCons (t : TG) (u : TGs) : TGs := fun vs σ H Q => ∃ v r, vs = v :: r ∧ t v σ H fun σ' H' => u r σ' H' Q
theorem pgs_nil : PGs X [] gNil := by
  intro pins s σ H vs us Q I r h
  obtain ⟨e, h⟩ := h
  subst e
  cases r
  exact assignInOrder_nil ⟨σ, H, I, h⟩
theorem pgs_cons {e : Expr} {es : List Expr} {t : TG} {u : TGs} (h1 : PG X e t) (h2 : PGs X es u)
    (hs : (assignEach (e :: es) X.env).map (·.2) = assign e X.env :: (assignEach es X.env).map (·.2) := by rfl) : PGs X (e :: es) (gCons t u) := by
  intro pins s σ H vs us Q I r h
  obtain ⟨v, vr, e1, h⟩ := h
  subst e1
  cases r with
  | cons r rr =>
    rw [hs]
    refine assignInOrder_cons (thn (h1 pins s σ H _ _ _ I r h) fun _ s1 ⟨σ1, H1, I1, q1⟩ => ?_)
    exact h2 pins s1 σ1 H1 _ _ Q I1 rr q1
def gTup (K : PySem.W.Frag) (n : Nat) (t : TGs) : TG := fun v σ H Q => ∃ a xs, v = .ref a ∧ SqT K H a xs ∧ xs.length = n ∧ t xs σ H Q
theorem pg_tup {es : List Expr} {k : Nat} {t : TGs} {n : Nat} (hc : X.calm = true) (h : PGs X es t)
    (hn : (assignEach es X.env).length = n := by rfl) (hst : (assignEach es X.env).findIdx? (·.1) = none := by rfl) : PG X (.Tuple es k pos) (gTup X.K n t) := by
  intro pins s σ H v u Q I r hw
  obtain ⟨a, xs, e1, hq, hl, hw⟩ := hw
  subst e1
  cases r
  obtain ⟨its, rv, ht, hz⟩ := I.tuple hq
  refine assign_Tuple_tuple (I.ok.hd hc) ht (by simp [hn, ← hl, rv.length]) hst fun h' hx => ?_
  have I1 : Inv X pins σ H { s with heap := h' } := I.kept (t' := s.toks) fun b o e => hx b o (Nat.ne_of_lt (Heap.lt_size e)) e
  exact h pins _ σ H xs _ Q I1 (by simpa using rv) hw
def gSub (to ti : TE) (t : TSet) : TG := fun v σ H Q => to σ H fun o H1 => ti σ H1 fun i H2 => t o i v H2 fun H3 => Q σ H3
theorem pg_sub {o i : Expr} {to ti : TE} {t : TSet} (ho : PE X o to) (hi : PE X i ti) (hs : PSet X t)
    (ha : ∀ v, assign (.Subscript o i pos) X.env v = (do
      let ov ← holding [v] (eval o X.env)
      let iv ← holding [v, ov] (eval i X.env)
      standAt pos
      holding [v, ov, iv] (setItem ov iv v)
      release [v, ov, iv] []) := by intro _; rfl) : PG X (.Subscript o i pos) (gSub to ti t) := by
  intro pins s σ H v u Q I r h
  rw [ha]
  refine wpAny_bind (wpAny_holding (thn (ho pins s σ H _ I h) fun ov s1 ⟨x, H1, I1, r1, q1⟩ => ?_))
  refine wpAny_bind (wpAny_holding (thn (hi pins s1 σ H1 _ I1 q1) fun iv s2 ⟨y, H2, I2, r2, q2⟩ => ?_))
  refine wpAny_bind (wpAny_standAt (wpAny_bind (wpAny_holding (thn (hs pins s2 σ H2 x y v ov iv u _ I2 r1 r2 r q2) fun _ s3 ⟨H3, I3, q3⟩ => ?_))))
  exact wpAny_release ⟨σ, H3, I3, q3⟩
def tAsg (te : TE) (g : TG) : TS := fun D σ H => te σ H fun x H1 => g x σ H1 D.nx
theorem ps_asg {tg e : Expr} {te : TE} {g : TG} (he : PE X e te) (hg : PG X tg g) (hs : swapsWithSole [tg] e pos.line X.env = pure false := by rfl) (hw : swappedStores [tg] e X.env = pure none := by rfl)
    (h1 : (assignEach [tg] X.env).map (·.2) = [assign tg X.env] := by rfl) : PS X (.Assign [tg] e pos) (tAsg te g) := by
  intro pins s σ H D I h
  refine wpAny_Assign_stores (thn (he pins s σ H _ I h) fun v s1 ⟨x, H1, I1, r1, q1⟩ => ?_) hs hw
  rw [h1]
  exact thn (hg pins s1 σ H1 x v _ I1 r1 q1) fun _ s2 q => q
theorem ps_set {i : Nat} {x : Str} {e : Expr} {te : TE} {pos' : Pos} (hN : X.N.Nodup) (hi : X.N[i]? = some x) (hx : Loc X.env.scope x) (he : PE X e te) (hs : swapsWith e (some (.Name x pos')) pos.line X.env = pure false := by rfl) (hf : X.fn x = true ∨ X.env.scope.names.lookup x = some .local := by first | exact .inl rfl | exact .inr rfl | assumption) :
    PS X (.Assign [.Name x pos'] e pos) (tAsg te (gName i)) := by
  intro pins s σ H D I h
  refine wpAny_Assign_Name (thn (he pins s σ H _ I h) fun v s1 ⟨y, H1, I1, r1, q1⟩ => ?_) hs
  exact store_ok I1 hN hi hx r1 (fun s2 I2 => ⟨_, H1, I2, q1⟩) hf
def tPar (i j : Nat) (ta : TA) : TS := fun D σ H => ta σ H fun vs H1 => ∃ v w, vs = [v, w] ∧ D.nx ((σ.set i (some v)).set j (some w)) H1
theorem ps_par {i j : Nat} {x y : Str} {a b : Expr} {ta : TA} {px py pt : Pos} {kt k2 pt2} (hc : X.calm = true) (hN : X.N.Nodup) (hi : X.N[i]? = some x) (hj : X.N[j]? = some y) (hij : i ≠ j)
    (hx : X.env.scope.names.lookup x = some .local) (hy : X.env.scope.names.lookup y = some .local) (ha : PA X [a, b] ta)
    (hw : swappedStores [.Tuple [.Name x px, .Name y py] kt pt] (.Tuple [a, b] k2 pt2) X.env = pure (some [x, y]))
    (hs : swapsWithSole [.Tuple [.Name x px, .Name y py] kt pt] (.Tuple [a, b] k2 pt2) pos.line X.env = pure false := by rfl) :
    PS X (.Assign [.Tuple [.Name x px, .Name y py] kt pt] (.Tuple [a, b] k2 pt2) pos) (tPar i j ta) := by
  intro pins s σ H D I h
  rw [exec_Assign_arm]
  refine wpAny_bind (wpAny_standAt ?_)
  rw [hs]
  refine wpAny_bind (wpAny_pure ?_)
  rw [if_neg (by decide)]
  refine wpAny_bind (Tuple_ (thn (ha _ pins s σ H _ I h) fun us s1 ⟨vs, H1, I1, r1, q1⟩ => ?_))
  obtain ⟨v, w, e1, q1⟩ := q1
  subst e1
  obtain ⟨u1, u2, rfl, rv, rw'⟩ : ∃ u1 u2, us = [u1, u2] ∧ RelV v u1 ∧ RelV w u2 := by
    cases r1 with
    | cons p q =>
      cases q with
      | cons p' q' =>
        cases q'
        exact ⟨_, _, rfl, p, p'⟩
  refine wpAny_newObj_type ?_ (by show 2 ≤ sizeLine; decide)
  have I2 : Inv X pins σ H1 { s1 with heap := s1.heap.push { cls := .type "tuple", data := .seq [u1, u2].toArray } } := I1.kept (t' := s1.toks) fun b o e => Heap.get?_push_of_some _ e
  rw [hw]
  refine wpAny_bind (wpAny_pure ?_)
  show wpAny (model X.prog X.w) X.A (do rule "assign.swapped-stores"; let items ← unpackItems (.ref s1.heap.objs.size) 2 none; assignInOrder [fun v => bindName X.env y v, fun v => bindName X.env x v] items.reverse; pure Flow.next) _ _ _
  refine wpAny_bind (wpAny_rule (wpAny_bind (unpackItems_tuple (items := #[u1, u2]) (I.ok.hd hc) (IsTup.new s1.heap _) fun h' hx' => ?_)))
  have I3 := I2.kept (h' := h') (t' := s1.toks) fun b o e => hx' b o (Nat.ne_of_lt (Heap.lt_size e)) e
  show wpAny _ _ (assignInOrder [fun v => bindName X.env y v, fun v => bindName X.env x v] [u2, u1] >>= fun _ => pure Flow.next) _ _ _
  refine wpAny_bind (assignInOrder_cons (wpAny_bindName (store_ok I3 hN hj (.inl hy) rw' (fun s2 I4 => ?_) (.inr hy))))
  refine assignInOrder_cons (wpAny_bindName (store_ok I4 hN hi (.inl hx) rv (fun s3 I5 => assignInOrder_nil (wpAny_pure ?_)) (.inr hx)))
  rw [List.set_comm _ _ (Ne.symm hij)] at I5
  exact ⟨_, H1, I5, q1⟩
end

section
variable {X : Cx} {pos : Pos}
def tWhile (c : TT) (tb : TS) : TS := fun D σ H => ∃ W : Nat → St → Hp → Prop, (∃ m, W m σ H) ∧ ∀ m σ H, W m σ H →
  c σ H fun b H1 => if b = true then ∃ N : St → Hp → Prop, (∀ σ' H', N σ' H' → ∃ m', m' < m ∧ W m' σ' H') ∧ tb { D with nx := N, ct := N, bk := D.nx } σ H1 else D.nx σ H1
theorem ps_while {c : Expr} {body : List Stmt} {tc : TT} {tb : TS} (hp : PassesOwn (model X.prog X.w) X.A X.env X.xe) (hc : PT X c tc) (hb : PSs X body tb) : PS X (.While c body [] pos) (tWhile tc tb) := by
  intro pins s σ H D I h
  obtain ⟨W, ⟨m0, w0⟩, turn⟩ := h
  refine wpAny_While (codeAny_whileLoop (fun n s' => ∃ σ' H', Inv X pins σ' H' s' ∧ W n σ' H') ?_ m0 ⟨σ, H, I, w0⟩)
  rintro n s1 ⟨σ1, H1, I1, w1⟩
  refine wpAny_passesOwn hp (thn (hc pins s1 σ1 H1 _ I1 (turn n σ1 H1 w1)) fun b s2 ⟨H2, I2, q2⟩ => ?_)
  cases b with
  | true =>
    obtain ⟨N, hN, q2⟩ := q2
    rw [if_pos rfl]
    refine wpAny_passesOwn hp (thn (hb pins s2 σ1 H2 _ I2 q2) fun f s3 q3 => ?_)
    cases f with
    | next =>
      obtain ⟨σ3, H3, I3, n3⟩ := q3
      obtain ⟨m', hm, w3⟩ := hN σ3 H3 n3
      exact ⟨m', hm, σ3, H3, I3, w3⟩
    | cont =>
      obtain ⟨σ3, H3, I3, n3⟩ := q3
      obtain ⟨m', hm, w3⟩ := hN σ3 H3 n3
      exact ⟨m', hm, σ3, H3, I3, w3⟩
    | brk => exact q3
    | ret v => exact q3
  | false =>
    rw [if_neg Bool.false_ne_true]
    exact wpAny_execs_nil ⟨σ1, H2, I2, q2⟩
end

structure It where
  go : Nat → Hp → Prop
  yld : Nat → Hp → V → Hp → Prop
  stop : Nat → Hp → Prop
def FpOk (X : Cx) (pins : List (Addr × Obj)) (H : Hp) (b : Addr) : Prop :=
  H b = none ∧ b ≠ X.env.locals ∧ b ∉ X.fs ∧ (b ∈ X.ex ∨ X.s₀.heap.objs.size ≤ b) ∧ (∀ x c, X.env.cells.lookup x = some c → c ≠ b) ∧ ∀ p ∈ X.pn ++ pins, p.1 ≠ b
theorem Inv.fpOk {X : Cx} {pins : List (Addr × Obj)} {σ : St} {H H' : Hp} {s : Shared} {b : Addr} (I : Inv X pins σ H s) (hb : s.heap.objs.size ≤ b) (hn : H' b = none) : FpOk X pins H' b := by
  refine ⟨hn, Nat.ne_of_gt (Nat.lt_of_lt_of_le I.lt hb), I.nofs hb, .inr (Nat.le_trans I.sz hb), fun x c e z => ?_, fun p hp z => ?_⟩
  · obtain ⟨v, q⟩ := I.cell x c e
    exact absurd (Nat.lt_of_lt_of_le q.lt (by rw [z]; exact hb)) (Nat.lt_irrefl _)
  · exact absurd (Nat.lt_of_lt_of_le (Heap.lt_size (I.pin p hp).1) (by rw [z]; exact hb)) (Nat.lt_irrefl _)
structure Turn (P : Program) (w : World) (K : PySem.W.Frag) (tg : Expr) (J : It) (fp : List Addr) (it : Addr) (tn : Nat → Heap → Prop) : Prop where
  mem : it ∈ fp
  obj : ∀ i h, tn i h → ∀ b ∈ fp, ∃ o, h.get? b = some o ∧ ∀ v, o.data ≠ .cell v
  keep : ∀ i h h', tn i h → (∀ b ∈ fp, ∀ o, h.get? b = some o → h'.get? b = some o) → tn i h'
  item : ∀ (X : Cx), X.prog = P → X.w = w → X.K = K → X.calm = true → ∀ (i : Nat) (pins : List (Addr × Obj)) (s : Shared) (σ : St) (H : Hp) (E : Value → Shared → Prop), Inv X pins σ H s → (∀ b ∈ fp, FpOk X pins H b) → tn i s.heap → J.go i H →
    wpAny (model P w) X.A (pyNext (.ref it)) (fun r s1 => ∃ u, r = some u ∧
      wpAny (model P w) X.A (letOwnedTupleGo tg (.ref it) u) (fun _ s2 => ∃ x H', Inv X pins σ H' s2 ∧ RelV x u ∧ J.yld i H x H' ∧ tn (i + 1) s2.heap ∧ ∀ b ∈ fp, H' b = none) E s1) E s
  done : ∀ (X : Cx), X.prog = P → X.w = w → X.K = K → X.calm = true → ∀ (i : Nat) (pins : List (Addr × Obj)) (s : Shared) (σ : St) (H : Hp) (E : Value → Shared → Prop), Inv X pins σ H s → (∀ b ∈ fp, FpOk X pins H b) → tn i s.heap → J.stop i H →
    wpAny (model P w) X.A (pyNext (.ref it)) (fun r s1 => r = none ∧ Inv X pins σ H s1) E s
  self : ∀ (A : Around) (i : Nat) (s : Shared) (Q : Value → Shared → Prop) (E : Value → Shared → Prop), tn i s.heap → Q (.ref it) s → wpAny (model P w) A (pyIter (.ref it)) Q E s
abbrev TI := St → Hp → (It → Hp → Prop) → Prop
def PIE (X : Cx) (pins : List (Addr × Obj)) (σ : St) (tg : Expr) (R : It → Hp → Prop) (itv : Value) (s2 : Shared) : Prop :=
  ∃ (it : Addr) (fp : List Addr) (tn : Nat → Heap → Prop) (J : It) (H' : Hp), itv = .ref it ∧ Inv X pins σ H' s2 ∧ Turn X.prog X.w X.K tg J fp it tn ∧ tn 0 s2.heap ∧ (∀ b ∈ fp, FpOk X pins H' b) ∧ R J H'
def PI (X : Cx) (tg iter : Expr) (wi : TI) : Prop :=
  ∀ (pins : List (Addr × Obj)) (s : Shared) (σ : St) (H : Hp) (R : It → Hp → Prop), Inv X pins σ H s → wi σ H R →
    wpAny (model X.prog X.w) X.A (eval iter X.env) (fun v s1 => wpAny (model X.prog X.w) X.A (pyIter v) (PIE X pins σ tg R) X.xe s1) X.xe s

theorem go_of {M : Model} {A : Around} {E : Value → Shared → Prop} {s : Shared} {tg : Expr} {it : Addr} {u : Value} {o : Obj} {n : String} {vs : Array Value} {Q : Unit → Shared → Prop} (ho : s.heap.get? it = some o) (hc : o.cls = .type n) (hd : o.data = .fields vs)
    (hn : ["enumerate", "zip", "dict_itemiterator", "dict_reverseitemiterator", "odict_iterator", "itertools.zip_longest", "itertools.pairwise"].contains n = false) (hQ : Q () s) : wpAny M A (letOwnedTupleGo tg (.ref it) u) Q E s := by
  unfold letOwnedTupleGo
  cases tg <;> first
    | exact wpAny_pure hQ
    | (cases u <;> first
        | exact wpAny_pure hQ
        | (refine wpAny_bind (wpAny_load ho ?_)
           rw [hc, hd]
           show wpAny M A (if (["enumerate", "zip", "dict_itemiterator", "dict_reverseitemiterator", "odict_iterator", "itertools.zip_longest", "itertools.pairwise"].contains n && vs[0]? == some (rawInt _)) = true then _ else _) Q E s
           rw [if_neg (by intro h; rw [hn, Bool.false_and] at h; cases h)]
           exact wpAny_pure hQ))

def Itl (K : PySem.W.Frag) (a : Addr) : It :=
  ⟨fun i H => ∃ xs x, SqL K H a xs ∧ xs[i]? = some x, fun i H x H' => H' = H ∧ ∀ xs, SqL K H a xs → xs[i]? = some x, fun i H => ∃ xs, SqL K H a xs ∧ xs.length ≤ i⟩
def Itt (K : PySem.W.Frag) (a : Addr) : It :=
  ⟨fun i H => ∃ xs x, SqT K H a xs ∧ xs[i]? = some x, fun i H x H' => H' = H ∧ ∀ xs, SqT K H a xs → xs[i]? = some x, fun i H => ∃ xs, SqT K H a xs ∧ xs.length ≤ i⟩
def Itr (lo : Int) (n : Nat) : It := ⟨fun i _ => i < n, fun i H x H' => H' = H ∧ x = .int (lo + i), fun i _ => n ≤ i⟩
theorem turn_list {P : Program} {w : World} {K : PySem.W.Frag} {tg : Expr} (a it : Addr) : Turn P w K tg (Itl K a) [it] it (fun i h => h.IsListIter it a i) where
  mem := by simp
  obj := fun i h st b hb => by
    have e : b = it := by simpa using hb
    subst e
    obtain ⟨o, e, c, d⟩ := st
    exact ⟨o, e, fun v z => by rw [d] at z; cases z⟩
  keep := fun i h h' st k => st.at fun o e => k it (by simp) o e
  item := by
    intro X hP hw hK hc i pins s σ H E I hf st hg
    subst hP hw hK
    obtain ⟨xs, x, hq, hx⟩ := hg
    obtain ⟨its, rv, p, hz⟩ := I.list hq
    obtain ⟨u, hu, ru⟩ := rv.get hx
    obtain ⟨f0, f1, f2, f3, f4, f5⟩ := hf it (by simp)
    refine wpAny_pyNext_list_item st p.isList (x := u) (by simpa using hu) fun h' st' sb => ?_
    have I1 : Inv X pins σ H { s with heap := h' } := I.turned (t' := s.toks) (fun b o hb e => (sb.2 b hb).trans e) f0 f1 f3 f4 f5
    obtain ⟨o, e, c, d⟩ := id st'
    exact ⟨u, rfl, go_of (s := { s with heap := h' }) e c d (by decide) ⟨x, H, I1, ru, ⟨rfl, fun ys hy => by rw [I.list_inj hy hq]; exact hx⟩, st', fun b hb => (hf b hb).1⟩⟩
  done := by
    intro X hP hw hK hc i pins s σ H E I hf st hg
    subst hP hw hK
    obtain ⟨xs, hq, hx⟩ := hg
    obtain ⟨its, rv, p, hz⟩ := I.list hq
    obtain ⟨f0, f1, f2, f3, f4, f5⟩ := hf it (by simp)
    have hl := rv.length
    exact wpAny_pyNext_list_end (I.ok.hd hc) st p.isList (by simp; omega) fun h' eb => ⟨rfl, I.turned (t' := s.toks) (fun b o hb e => eb b o hb e) f0 f1 f3 f4 f5⟩
  self := fun _ _ _ _ _ st h => wpAny_pyIter_listiter st h
theorem turn_tuple {P : Program} {w : World} {K : PySem.W.Frag} {tg : Expr} (a it : Addr) : Turn P w K tg (Itt K a) [it] it (fun i h => h.IsTupleIter it a i) where
  mem := by simp
  obj := fun i h st b hb => by
    have e : b = it := by simpa using hb
    subst e
    obtain ⟨o, e, c, d⟩ := st
    exact ⟨o, e, fun v z => by rw [d] at z; cases z⟩
  keep := fun i h h' st k => st.at fun o e => k it (by simp) o e
  item := by
    intro X hP hw hK hc i pins s σ H E I hf st hg
    subst hP hw hK
    obtain ⟨xs, x, hq, hx⟩ := hg
    obtain ⟨its, rv, p, hz⟩ := I.tuple hq
    obtain ⟨u, hu, ru⟩ := rv.get hx
    obtain ⟨f0, f1, f2, f3, f4, f5⟩ := hf it (by simp)
    refine wpAny_pyNext_tuple_item st (show s.heap.IsTuple a its.toArray from p) (x := u) (by simpa using hu) fun h' st' sb => ?_
    have I1 : Inv X pins σ H { s with heap := h' } := I.turned (t' := s.toks) (fun b o hb e => (sb.2 b hb).trans e) f0 f1 f3 f4 f5
    obtain ⟨o, e, c, d⟩ := id st'
    exact ⟨u, rfl, go_of (s := { s with heap := h' }) e c d (by decide) ⟨x, H, I1, ru, ⟨rfl, fun ys hy => by rw [I.tuple_inj hy hq]; exact hx⟩, st', fun b hb => (hf b hb).1⟩⟩
  done := by
    intro X hP hw hK hc i pins s σ H E I hf st hg
    subst hP hw hK
    obtain ⟨xs, hq, hx⟩ := hg
    obtain ⟨its, rv, p, hz⟩ := I.tuple hq
    obtain ⟨f0, f1, f2, f3, f4, f5⟩ := hf it (by simp)
    have hl := rv.length
    exact wpAny_pyNext_tuple_end (I.ok.hd hc) st (show s.heap.IsTuple a its.toArray from p) (by simp; omega) fun h' eb => ⟨rfl, I.turned (t' := s.toks) (fun b o hb e => eb b o hb e) f0 f1 f3 f4 f5⟩
  self := fun _ _ _ _ _ st h => wpAny_pyIter_tupleiter st h
theorem turn_range {P : Program} {w : World} {K : PySem.W.Frag} {tg : Expr} (it : Addr) (lo : Int) (n : Nat) : Turn P w K tg (Itr lo n) [it] it (fun i h => IsRangeIter h it (lo + (i : Nat) * 1) ((n : Int) - (i : Nat)) 1) where
  mem := by simp
  obj := fun i h st b hb => by
    have e : b = it := by simpa using hb
    subst e
    exact ⟨_, st, fun v z => by
      have z' : Data.fields _ = Data.cell v := z
      cases z'⟩
  keep := fun i h h' st k => k it (by simp) _ st
  item := by
    intro X hP hw hK hc i pins s σ H E I hf st hg
    subst hP hw hK
    obtain ⟨f0, f1, f2, f3, f4, f5⟩ := hf it (by simp)
    have W := Walks.range (prog := X.prog) (w := X.w) (I.ok.hd hc) it lo 1 n
    refine W.item i s _ _ hg st fun v h' tk hv st' kk => ?_
    obtain ⟨t, rfl⟩ := hv
    have I1 : Inv X pins σ H { s with heap := h', toks := tk } := I.turned (fun b o hb e => kk b o (by simpa using hb) e) f0 f1 f3 f4 f5
    refine ⟨_, rfl, go_of (s := { s with heap := h', toks := tk }) (n := "range_iterator") st' rfl rfl (by decide) ⟨.int (lo + i), H, I1, ⟨t, ?_⟩, ⟨rfl, rfl⟩, st', fun b hb => (hf b hb).1⟩⟩
    rw [Int.mul_one]
  done := by
    intro X hP hw hK hc i pins s σ H E I hf st hg
    subst hP hw hK
    obtain ⟨f0, f1, f2, f3, f4, f5⟩ := hf it (by simp)
    exact wpAny_pyNext_range_end (I.ok.hd hc) st (by have : n ≤ i := hg; omega) fun h' eb => ⟨rfl, I.turned (t' := s.toks) (fun b o hb e => eb b o hb e) f0 f1 f3 f4 f5⟩
  self := fun _ _ _ _ _ st h => wpAny_pyIter_rangeiter st h
end L2

namespace L2
open PySem PySem.Spec PyProof.Rows
section
variable {X : Cx} {tg : Expr}
def iList (K : PySem.W.Frag) (tl : TE) : TI := fun σ H R => tl σ H fun x H1 => ∃ a, x = .ref a ∧ (∃ xs, SqL K H1 a xs) ∧ R (Itl K a) H1
def iTup (K : PySem.W.Frag) (tl : TE) : TI := fun σ H R => tl σ H fun x H1 => ∃ a, x = .ref a ∧ (∃ xs, SqT K H1 a xs) ∧ R (Itt K a) H1
theorem pi_list {l : Expr} {tl : TE} (hl : PE X l tl) : PI X tg l (iList X.K tl) := by
  intro pins s σ H R I h
  refine thn (hl pins s σ H _ I h) fun v s1 ⟨x, H1, I1, r1, q1⟩ => ?_
  obtain ⟨a, e, ⟨xs, hq⟩, q⟩ := q1
  subst e
  cases r1
  obtain ⟨its, rv, p, hz⟩ := I1.list hq
  refine wpAny_pyIter_list p.isList ?_
  refine ⟨s1.heap.objs.size, [s1.heap.objs.size], _, _, H1, rfl, I1.kept (t' := s1.toks) fun b o e => Heap.get?_push_of_some _ e, turn_list a _, ⟨_, Heap.get?_push_size _ rfl, rfl, rfl⟩, fun b hb => ?_, q⟩
  have e : b = s1.heap.objs.size := by simpa using hb
  subst e
  exact I1.fpOk (Nat.le_refl _) (I1.hok.fresh (Nat.le_refl _))
theorem pi_tup {l : Expr} {tl : TE} (hl : PE X l tl) : PI X tg l (iTup X.K tl) := by
  intro pins s σ H R I h
  refine thn (hl pins s σ H _ I h) fun v s1 ⟨x, H1, I1, r1, q1⟩ => ?_
  obtain ⟨a, e, ⟨xs, hq⟩, q⟩ := q1
  subst e
  cases r1
  obtain ⟨its, rv, p, hz⟩ := I1.tuple hq
  refine wpAny_pyIter_tuple (show s1.heap.IsTuple a its.toArray from p) ?_
  refine ⟨s1.heap.objs.size, [s1.heap.objs.size], _, _, H1, rfl, I1.kept (t' := s1.toks) fun b o e => Heap.get?_push_of_some _ e, turn_tuple a _, ⟨_, Heap.get?_push_size _ rfl, rfl, rfl⟩, fun b hb => ?_, q⟩
  have e : b = s1.heap.objs.size := by simpa using hb
  subst e
  exact I1.fpOk (Nat.le_refl _) (I1.hok.fresh (Nat.le_refl _))
theorem range_it {pins : List (Addr × Obj)} {σ : St} {H : Hp} {s : Shared} {R : It → Hp → Prop} {E : Value → Shared → Prop} {lo hi : Int} {t u v : Tok} {tk : Nat} (I : Inv X pins σ H s) (h1 : -(2 ^ 62) ≤ lo) (h2 : lo < 2 ^ 62) (h3 : -(2 ^ 62) ≤ hi) (h4 : hi < 2 ^ 62)
    (q : R (Itr lo (hi - lo).toNat) H) : wpAny (model X.prog X.w) X.A (pyIter (.ref s.heap.objs.size)) (PIE X pins σ tg R) E { s with heap := s.heap.push { cls := .type "range", data := .fields #[.int lo t, .int hi u, .int 1 v] }, toks := tk } := by
  refine wpAny_pyIter_range (IsRange.new ..) (small_one h1 h2 h3 h4) ?_
  have I1 : Inv X pins σ H { s with heap := s.heap.push { cls := .type "range", data := .fields #[.int lo t, .int hi u, .int 1 v] }, toks := tk } := I.kept fun b o e => Heap.get?_push_of_some _ e
  refine ⟨(s.heap.push { cls := .type "range", data := .fields #[.int lo t, .int hi u, .int 1 v] }).objs.size, [(s.heap.push { cls := .type "range", data := .fields #[.int lo t, .int hi u, .int 1 v] }).objs.size], _, _, H, rfl,
    I1.kept (t' := tk) fun b o e => Heap.get?_push_of_some _ e, turn_range _ lo (hi - lo).toNat, ?_, fun b hb => ?_, q⟩
  · have e1 : lo + ((0 : Nat) : Int) * 1 = lo := by simp
    have e2 : (((hi - lo).toNat : Nat) : Int) - ((0 : Nat) : Int) = Builtin.Range.rangeSize lo hi 1 := by rw [rangeSize_one]; split <;> omega
    show IsRangeIter _ _ (lo + ((0 : Nat) : Int) * 1) ((((hi - lo).toNat : Nat) : Int) - ((0 : Nat) : Int)) 1
    rw [e1, e2]
    exact Heap.get?_push_size _ rfl
  · have e : b = (s.heap.push { cls := .type "range", data := .fields #[.int lo t, .int hi u, .int 1 v] }).objs.size := by simpa using hb
    subst e
    exact I1.fpOk (Nat.le_refl _) (I1.hok.fresh (Nat.le_refl _))
def iRng1 (ta : TA) : TI := fun σ H R => ta σ H fun vs H1 => ∃ j : Int, vs = [.int j] ∧ -(2 ^ 62) ≤ j ∧ j < 2 ^ 62 ∧ R (Itr 0 j.toNat) H1
theorem pi_range1 {a : Expr} {ta : TA} {p pos : Pos} (hg : Gl X "range") (hm : X.mg "range" = none) (ha : PA X [a] ta) (hs : starEach [a] X.env = [(false, eval a X.env)] := by rfl) : PI X tg (.Call (.Name "range" p) [a] [] pos) (iRng1 ta) := by
  intro pins s σ H R I h
  refine Call_ (ld_blt I hg hm boot_range (PyProof.Rows.callWith_type1 (thn (ha pos pins s σ H _ I h) fun us s1 ⟨vs, H1, I1, r1, q1⟩ => ?_) hs rfl))
  obtain ⟨j, e, q1, q2, q⟩ := q1
  subst e
  cases r1 with
  | cons r rr =>
    cases rr
    obtain ⟨t, rfl⟩ := r
    exact call_range_1 (range_it I1 (by omega) (by omega) q1 q2 (by simpa using q))
def tFor (wi : TI) (g : TG) (tb : TS) : TS := fun D σ H => wi σ H fun J H1 => ∃ W : Nat → Nat → St → Hp → Prop, (∃ m, W 0 m σ H1) ∧ ∀ i m σ H, W i m σ H →
  (J.stop i H ∧ D.nx σ H) ∨ (J.go i H ∧ ∃ N : St → Hp → Prop, (∀ σ' H', N σ' H' → ∃ m', m' < m ∧ W (i + 1) m' σ' H') ∧ ∀ x H', J.yld i H x H' → g x σ H' fun σ2 H2 => tb { D with nx := N, ct := N, bk := D.nx } σ2 H2)
def pinsAt (fp : List Addr) (h : Heap) : List (Addr × Obj) := fp.filterMap fun b => (h.get? b).map fun o => (b, o)
theorem mem_pinsAt {fp : List Addr} {h : Heap} {b : Addr} {o : Obj} (hb : b ∈ fp) (e : h.get? b = some o) : (b, o) ∈ pinsAt fp h := List.mem_filterMap.mpr ⟨b, hb, by rw [e]; rfl⟩
theorem of_pinsAt {fp : List Addr} {h : Heap} {p : Addr × Obj} (hp : p ∈ pinsAt fp h) : p.1 ∈ fp ∧ h.get? p.1 = some p.2 := by
  obtain ⟨b, hb, e⟩ := List.mem_filterMap.mp hp
  cases q : h.get? b with
  | none => rw [q] at e; cases e
  | some o =>
    rw [q] at e
    have e' : (b, o) = p := Option.some.inj e
    subst e'
    exact ⟨hb, q⟩
theorem Inv.pinned {pins : List (Addr × Obj)} {σ : St} {H : Hp} {s : Shared} {fp : List Addr} (I : Inv X pins σ H s) (hf : ∀ b ∈ fp, FpOk X pins H b) (ho : ∀ b ∈ fp, ∃ o, s.heap.get? b = some o ∧ ∀ v, o.data ≠ .cell v) : Inv X (pins ++ pinsAt fp s.heap) σ H s :=
  I.pins_of fun p hp => (List.mem_append.mp hp).elim (fun z => I.pin p (List.mem_append_right _ z)) fun z => by
    obtain ⟨hb, e⟩ := of_pinsAt z
    obtain ⟨f0, f1, f2, _⟩ := hf p.1 hb
    obtain ⟨o, e', d⟩ := ho p.1 hb
    rw [e] at e'; cases e'
    exact ⟨e, f0, f1, f2, d⟩
theorem Inv.unpinned {pins pl : List (Addr × Obj)} {σ : St} {H : Hp} {s : Shared} (I : Inv X (pins ++ pl) σ H s) : Inv X pins σ H s := I.pins_of fun p hp => I.pin p (List.mem_append_right _ (List.mem_append_left _ hp))
theorem ps_for {iter : Expr} {body : List Stmt} {wi : TI} {g : TG} {tb : TS} {pos : Pos} (hp : PassesOwn (model X.prog X.w) X.A X.env X.xe) (hc : X.calm = true) (hi : PI X tg iter wi) (hg : PG X tg g) (hb : PSs X body tb)
    (hs : ∀ x, foldedSetIterable iter X.env x = pure x := by intro _; rfl) : PS X (.For tg iter body [] pos) (tFor wi g tb) := by
  intro pins s σ H D I h
  refine wpAny_For (thn (hi pins s σ H _ I h) fun v s1 h1 => thn h1 fun itv s2 h2 => ?_) hs
  obtain ⟨it, fp, tn, J, H2, e, I2, T, st2, f2, W, ⟨m0, w0⟩, turn⟩ := h2
  subst e
  -- what stays true of the iterator's objects through the loop
  have stat : ∀ {H' : Hp}, (∀ b ∈ fp, H' b = none) → ∀ b ∈ fp, FpOk X pins H' b := fun hn b hb => ⟨hn b hb, (f2 b hb).2⟩
  refine codeAny_forLoop_any (fun n s' => ∃ i σ' H', Inv X pins σ' H' s' ∧ tn i s'.heap ∧ (∀ b ∈ fp, H' b = none) ∧ W i n σ' H') ?_ m0 ⟨0, σ, H2, I2, st2, fun b hb => (f2 b hb).1, w0⟩
  rintro n s3 ⟨i, σ3, H3, I3, st3, fr3, w3⟩
  rcases turn i n σ3 H3 w3 with ⟨stop, qn⟩ | ⟨go, N, hN, step⟩
  · refine wpAny_passesOwn hp (thn (T.done X rfl rfl rfl hc i pins s3 σ3 H3 X.xe I3 (stat fr3) st3 stop) fun r s4 ⟨hr, I4⟩ => ?_)
    subst hr
    exact wpAny_execs_nil ⟨σ3, H3, I4, qn⟩
  · refine wpAny_passesOwn hp (thn (T.item X rfl rfl rfl hc i pins s3 σ3 H3 X.xe I3 (stat fr3) st3 go) fun r s4 ⟨u, hr, h4⟩ => ?_)
    subst hr
    refine wpAny_passesOwn hp (thn h4 fun _ s5 ⟨x, H5, I5, r5, y5, st5, fr5⟩ => ?_)
    have I5' := I5.pinned (stat fr5) (T.obj _ _ st5)
    refine wpAny_passesOwn hp (thn (hg _ s5 σ3 H5 x u _ I5' r5 (step x H5 y5)) fun _ s6 ⟨σ6, H6, I6, q6⟩ => ?_)
    refine wpAny_passesOwn hp (thn (hb _ s6 σ6 H6 _ I6 q6) fun f s7 q7 => ?_)
    have again : ∀ {σ7 : St} {H7 : Hp}, Inv X (pins ++ pinsAt fp s5.heap) σ7 H7 s7 → N σ7 H7 → ∃ m, m < n ∧ ∃ i σ' H', Inv X pins σ' H' s7 ∧ tn i s7.heap ∧ (∀ b ∈ fp, H' b = none) ∧ W i m σ' H' := fun {σ7 H7} I7 n7 => by
      obtain ⟨m', hm, w7⟩ := hN σ7 H7 n7
      refine ⟨m', hm, i + 1, σ7, H7, I7.unpinned, T.keep _ _ _ st5 fun b hb o e => (I7.pin (b, o) (List.mem_append_right _ (List.mem_append_right _ (mem_pinsAt hb e)))).1, fun b hb => ?_, w7⟩
      obtain ⟨o, e, d⟩ := T.obj _ _ st5 b hb
      exact (I7.pin (b, o) (List.mem_append_right _ (List.mem_append_right _ (mem_pinsAt hb e)))).2.1
    cases f with
    | next => obtain ⟨σ7, H7, I7, n7⟩ := q7; exact again I7 n7
    | cont => obtain ⟨σ7, H7, I7, n7⟩ := q7; exact again I7 n7
    | brk => obtain ⟨σ7, H7, I7, q7⟩ := q7; exact ⟨σ7, H7, I7.unpinned, q7⟩
    | ret v => obtain ⟨x7, σ7, H7, I7, r7, q7⟩ := q7; exact ⟨x7, σ7, H7, I7.unpinned, r7, q7⟩
end

theorem for_list {K : PySem.W.Frag} {a : Addr} {xs : List V} {g : TG} {tb : TS} {D : Ends} {σ : St} {H : Hp} (Pv : Nat → St → Hp → Prop) (h0 : Pv 0 σ H) (hl : ∀ i σ H, i ≤ xs.length → Pv i σ H → SqL K H a xs)
    (hs : ∀ i x σ H, xs[i]? = some x → Pv i σ H → g x σ H fun σ2 H2 => tb { D with nx := Pv (i + 1), ct := Pv (i + 1), bk := D.nx } σ2 H2) (hd : ∀ σ H, Pv xs.length σ H → D.nx σ H) :
    ∃ W : Nat → Nat → St → Hp → Prop, (∃ m, W 0 m σ H) ∧ ∀ i m σ H, W i m σ H →
      ((Itl K a).stop i H ∧ D.nx σ H) ∨ ((Itl K a).go i H ∧ ∃ N : St → Hp → Prop, (∀ σ' H', N σ' H' → ∃ m', m' < m ∧ W (i + 1) m' σ' H') ∧ ∀ x H', (Itl K a).yld i H x H' → g x σ H' fun σ2 H2 => tb { D with nx := N, ct := N, bk := D.nx } σ2 H2) := by
  refine ⟨fun i m σ H => m = xs.length - i ∧ i ≤ xs.length ∧ Pv i σ H, ⟨xs.length, by simp, Nat.zero_le _, h0⟩, ?_⟩
  rintro i m σ H ⟨rfl, hi, p⟩
  have q := hl i σ H hi p
  by_cases hlt : i < xs.length
  · refine .inr ⟨⟨xs, xs[i], q, by simp [hlt]⟩, Pv (i + 1), fun σ' H' p' => ⟨xs.length - (i + 1), by omega, rfl, hlt, p'⟩, fun x H' y => ?_⟩
    obtain ⟨e, y⟩ := y
    subst e
    exact hs i x σ _ (y xs q) p
  · have e : i = xs.length := by omega
    subst e
    exact .inl ⟨⟨xs, q, Nat.le_refl _⟩, hd σ H p⟩
theorem for_range {lo : Int} {n : Nat} {g : TG} {tb : TS} {D : Ends} {σ : St} {H : Hp} (Pv : Nat → St → Hp → Prop) (h0 : Pv 0 σ H)
    (hs : ∀ i σ H, i < n → Pv i σ H → g (.int (lo + i)) σ H fun σ2 H2 => tb { D with nx := Pv (i + 1), ct := Pv (i + 1), bk := D.nx } σ2 H2) (hd : ∀ σ H, Pv n σ H → D.nx σ H) :
    ∃ W : Nat → Nat → St → Hp → Prop, (∃ m, W 0 m σ H) ∧ ∀ i m σ H, W i m σ H →
      ((Itr lo n).stop i H ∧ D.nx σ H) ∨ ((Itr lo n).go i H ∧ ∃ N : St → Hp → Prop, (∀ σ' H', N σ' H' → ∃ m', m' < m ∧ W (i + 1) m' σ' H') ∧ ∀ x H', (Itr lo n).yld i H x H' → g x σ H' fun σ2 H2 => tb { D with nx := N, ct := N, bk := D.nx } σ2 H2) := by
  refine ⟨fun i m σ H => m = n - i ∧ i ≤ n ∧ Pv i σ H, ⟨n, by simp, Nat.zero_le _, h0⟩, ?_⟩
  rintro i m σ H ⟨rfl, hi, p⟩
  by_cases hlt : i < n
  · refine .inr ⟨hlt, Pv (i + 1), fun σ' H' p' => ⟨n - (i + 1), by omega, rfl, hlt, p'⟩, fun x H' y => ?_⟩
    obtain ⟨e, y⟩ := y
    subst e y
    exact hs i σ _ hlt p
  · have e : i = n := by omega
    subst e
    exact .inl ⟨Nat.le_refl _, hd σ H p⟩
end L2

namespace L2
open PySem PySem.Spec PyProof.Rows

abbrev R2 := V → V → Hp → VK → Prop
def OpR (X : Cx) (f : Value → Value → Sem Value) (r : R2) : Prop :=
  ∀ (pins : List (Addr × Obj)) (s : Shared) (σ : St) (H : Hp) (x y : V) (v u : Value) (Q : VK), Inv X pins σ H s → RelV x v → RelV y u → r x y H Q →
    wpAny (model X.prog X.w) X.A (f v u) (EP X pins σ Q) X.xe s
def UnR (X : Cx) (f : Value → Sem Value) (r : V → Hp → VK → Prop) : Prop :=
  ∀ (pins : List (Addr × Obj)) (s : Shared) (σ : St) (H : Hp) (x : V) (v : Value) (Q : VK), Inv X pins σ H s → RelV x v → r x H Q →
    wpAny (model X.prog X.w) X.A (f v) (EP X pins σ Q) X.xe s
def CallR (X : Cx) (f : Value) (r : List V → Hp → VK → Prop) : Prop :=
  ∀ (pins : List (Addr × Obj)) (s : Shared) (σ : St) (H : Hp) (xs : List V) (us : List Value) (Q : VK), Inv X pins σ H s → Vals xs us → r xs H Q →
    wpAny (model X.prog X.w) X.A (call f us) (EP X pins σ Q) X.xe s
def tOp (r : R2) (ta tb : TE) : TE := fun σ H Q => ta σ H fun x H1 => tb σ H1 fun y H2 => r x y H2 Q
def tUn (r : V → Hp → VK → Prop) (ta : TE) : TE := fun σ H Q => ta σ H fun x H1 => r x H1 Q
def rI (C : Int → Int → Prop) (g : Int → Int → V) : R2 := fun x y H Q => ∃ i j, x = .int i ∧ y = .int j ∧ C i j ∧ Q (g i j) H
def rI0 (g : Int → Int → V) : R2 := fun x y H Q => ∃ i j, x = .int i ∧ y = .int j ∧ Q (g i j) H
def rU (g : Int → V) : V → Hp → VK → Prop := fun x H Q => ∃ i, x = .int i ∧ Q (g i) H

section
variable {X : Cx} {a b c : Expr} {ta tb tc : TE} {pos : Pos}

theorem binT (ha : PE X a ta) (hb : PE X b tb) {pins : List (Addr × Obj)} {s : Shared} {σ : St} {H : Hp} {R : V → V → Hp → Prop} (I : Inv X pins σ H s)
    (h : ta σ H fun x H1 => tb σ H1 fun y H2 => R x y H2) {Q : Value → Shared → Prop} {f : Value → Value → Sem Value}
    (hf : ∀ v u s2 x y H2, Inv X pins σ H2 s2 → RelV x v → RelV y u → R x y H2 → wpAny (model X.prog X.w) X.A (f v u) Q X.xe s2) :
    wpAny (model X.prog X.w) X.A (eval a X.env) (fun v s₁ => wpAny (model X.prog X.w) X.A (eval b X.env) (fun u s₂ => wpAny (model X.prog X.w) X.A (f v u) Q X.xe s₂) X.xe s₁) X.xe s := by
  refine thn (ha pins s σ H _ I h) fun v s1 ⟨x, H1, I1, r1, q1⟩ => ?_
  refine thn (hb pins s1 σ H1 _ I1 q1) fun u s2 ⟨y, H2, I2, r2, q2⟩ => ?_
  exact hf v u s2 x y H2 I2 r1 r2 q2

theorem pe_op {op : Operator} {r : R2} (ho : OpR X (binaryOp op) r) (ha : PE X a ta) (hb : PE X b tb) : PE X (.BinOp a op b pos) (tOp r ta tb) := by
  intro pins s σ H Q I h
  exact wpAny_BinOp (binT ha hb I h fun v u s2 x y H2 I2 rx ry q => ho pins s2 σ H2 x y v u Q I2 rx ry q)
theorem pe_un {op : UnaryOp} {r : V → Hp → VK → Prop} (ho : UnR X (unaryOp op) r) (ha : PE X a ta) : PE X (.UnaryOp op a pos) (tUn r ta) := by
  intro pins s σ H Q I h
  exact UnaryOp_ (thn (ha pins s σ H _ I h) fun v s1 ⟨x, H1, I1, r1, q1⟩ => ho pins s1 σ H1 x v Q I1 r1 q1)
theorem opI {f : Value → Value → Sem Value} {C : Int → Int → Prop} {g : Int → Int → Int}
    (rule : ∀ (i j : Int) (t u : Tok) (s : Shared) (Q : Value → Shared → Prop) (E : Value → Shared → Prop), C i j → Q (.int (g i j) s.toks) { s with toks := s.toks + 1 } → wpAny (model X.prog X.w) X.A (f (.int i t) (.int j u)) Q E s) :
    OpR X f (rI C fun i j => .int (g i j)) := by
  intro pins s σ H x y v u Q I rx ry h
  obtain ⟨i, j, rfl, rfl, hc, q⟩ := h
  obtain ⟨t, rfl⟩ := rx
  obtain ⟨t', rfl⟩ := ry
  exact rule i j t t' s _ _ hc ⟨.int (g i j), H, I.tok _, ⟨_, rfl⟩, q⟩
theorem opI0 {f : Value → Value → Sem Value} {g : Int → Int → Int}
    (rule : ∀ (i j : Int) (t u : Tok) (s : Shared) (Q : Value → Shared → Prop) (E : Value → Shared → Prop), Q (.int (g i j) s.toks) { s with toks := s.toks + 1 } → wpAny (model X.prog X.w) X.A (f (.int i t) (.int j u)) Q E s) :
    OpR X f (rI0 fun i j => .int (g i j)) := by
  intro pins s σ H x y v u Q I rx ry h
  obtain ⟨i, j, rfl, rfl, q⟩ := h
  obtain ⟨t, rfl⟩ := rx
  obtain ⟨t', rfl⟩ := ry
  exact rule i j t t' s _ _ ⟨.int (g i j), H, I.tok _, ⟨_, rfl⟩, q⟩
theorem opB0 {f : Value → Value → Sem Value} {g : Int → Int → Bool}
    (rule : ∀ (i j : Int) (t u : Tok) (s : Shared) (Q : Value → Shared → Prop) (E : Value → Shared → Prop), Q (.bool (g i j)) s → wpAny (model X.prog X.w) X.A (f (.int i t) (.int j u)) Q E s) :
    OpR X f (rI0 fun i j => .bl (g i j)) := by
  intro pins s σ H x y v u Q I rx ry h
  obtain ⟨i, j, rfl, rfl, q⟩ := h
  obtain ⟨t, rfl⟩ := rx
  obtain ⟨t', rfl⟩ := ry
  exact rule i j t t' s _ _ ⟨.bl (g i j), H, I, rfl, q⟩

def CDiv (i j : Int) : Prop := 0 < j ∧ j < 1073741824
def CPow (i j : Int) : Prop := 0 ≤ j ∧ j ≤ 1000000 ∧ i.natAbs < 2 ^ 64
def CMul (i j : Int) : Prop := (-(2 ^ 64) < i ∧ i < 2 ^ 64) ∨ (-(2 ^ 64) < j ∧ j < 2 ^ 64)
theorem CMul.ok {i j : Int} (h : CMul i j) : IntMulOk i j := by
  rcases h with ⟨h1, h2⟩ | ⟨h1, h2⟩
  · exact .of_left (intBits_le_64 h1 h2)
  · exact .of_right (intBits_le_64 h1 h2)
theorem op_add : OpR X (binaryOp .Add) (rI0 fun i j => .int (i + j)) := opI0 fun _ _ _ _ _ _ _ q => add_int q
theorem op_sub : OpR X (binaryOp .Sub) (rI0 fun i j => .int (i - j)) := opI0 fun _ _ _ _ _ _ _ q => sub_int q
theorem op_mul : OpR X (binaryOp .Mult) (rI CMul fun i j => .int (i * j)) := opI fun _ _ _ _ _ _ _ hc q => mul_int q hc.ok
theorem op_fdiv : OpR X (binaryOp .FloorDiv) (rI CDiv fun i j => .int (i / j)) := opI fun i j _ _ _ _ _ hc q => by
  have h1 : (0 : Int) < j := hc.1
  have h2 : j < 1073741824 := hc.2
  exact floordiv_int (by omega) (by rw [Int.fdiv_eq_ediv_of_nonneg i (by omega)]; exact q) (.inl (PyProof.noPylong_small (by omega)))
theorem op_mod : OpR X (binaryOp .Mod) (rI (fun _ j => 0 < j) fun i j => .int (i % j)) := opI fun i j _ _ _ _ _ hc q => by
  have h1 : (0 : Int) < j := hc
  exact mod_int' (by omega) (by rw [Int.fmod_eq_emod_of_nonneg i (by omega)]; exact q)
theorem op_modN : OpR X (binaryOp .Mod) (rI (fun _ j => j ≠ 0) fun i j => .int (i.fmod j)) := opI fun _ _ _ _ _ _ _ hc q => mod_int' hc q
theorem op_pow : OpR X (binaryOp .Pow) (rI CPow fun i j => .int (i ^ j.toNat)) := opI fun _ _ _ _ _ _ _ hc q => pow_int_small hc.1 hc.2.1 hc.2.2 q
theorem unI {f : Value → Sem Value} {g : Int → Int}
    (rule : ∀ (i : Int) (t : Tok) (s : Shared) (Q : Value → Shared → Prop) (E : Value → Shared → Prop), Q (.int (g i) s.toks) { s with toks := s.toks + 1 } → wpAny (model X.prog X.w) X.A (f (.int i t)) Q E s) :
    UnR X f (rU fun i => .int (g i)) := by
  intro pins s σ H x v Q I rx h
  obtain ⟨i, rfl, q⟩ := h
  obtain ⟨t, rfl⟩ := rx
  exact rule i t s _ _ ⟨.int (g i), H, I.tok _, ⟨_, rfl⟩, q⟩
theorem un_neg : UnR X (unaryOp .USub) (rU fun i => .int (-i)) := unI fun _ _ _ _ _ q => neg_int q
end

def scal : V → V → Bool
  | .non, .non => true | .non, .int _ => true | .int _, .non => true | .non, .bl _ => true | .bl _, .non => true | .non, .str _ => true | .str _, .non => true
  | .int _, .int _ => true | .bl _, .bl _ => true | .str _, .str _ => true | .byt _, .byt _ => true
  | .int _, .str _ => true | .str _, .int _ => true | .bl _, .str _ => true | .str _, .bl _ => true
  | _, _ => false
def rEq : R2 := fun x y H Q => scal x y = true ∧ Q (.bl (decide (x = y))) H
def rNe : R2 := fun x y H Q => scal x y = true ∧ Q (.bl (!decide (x = y))) H

theorem dec_int {i j : Int} : decide (V.int i = V.int j) = (i == j) := by
  rw [Bool.eq_iff_iff]
  simp
theorem dec_bl {i j : Bool} : decide (V.bl i = V.bl j) = (i == j) := by
  rw [Bool.eq_iff_iff]
  simp
theorem dec_str {i j : Str} : decide (V.str i = V.str j) = (i == j) := by
  rw [Bool.eq_iff_iff]
  simp
theorem dec_byt {i j : Array UInt8} : decide (V.byt i = V.byt j) = (i.toList == j.toList) := by
  rw [Bool.eq_iff_iff]
  cases i
  cases j
  simp

section
variable {X : Cx} {a b c : Expr} {ta tb tc : TE} {pos : Pos}
theorem fin_bl {pins : List (Addr × Obj)} {σ : St} {H : Hp} {s : Shared} {Q : VK} {k k' : Bool} (I : Inv X pins σ H s) (q : Q (.bl k) H) (e : k = k') : EP X pins σ Q (.bool k') s := by
  subst e
  exact ⟨.bl k, H, I, rfl, q⟩
theorem op_eq : OpR X (compareOp .Eq) rEq := by
  intro pins s σ H x y v u Q I rx ry h
  obtain ⟨hs, q⟩ := h
  cases x with
  | non =>
    cases rx
    cases y with
    | non => cases ry; exact PySem.EqNone.eq_none_none (fin_bl I q (by simp))
    | bl j => cases ry; exact PySem.EqNone.eq_none_bool (fin_bl I q (by simp))
    | int j => obtain ⟨t', rfl⟩ := ry; exact PySem.EqNone.eq_none_int (fin_bl I q (by simp))
    | str j => obtain ⟨t', rfl⟩ := ry; exact PySem.EqNone.eq_none_str (fin_bl I q (by simp))
    | _ => exact absurd (show false = true from hs) Bool.false_ne_true
  | bl i =>
    cases rx
    cases y with
    | non => cases ry; exact PySem.EqNone.eq_bool_none (fin_bl I q (by simp))
    | bl j => cases ry; exact eq_bool (fin_bl I q dec_bl)
    | str j => obtain ⟨t', rfl⟩ := ry; exact PySem.EqMixed.eq_bool_str (fin_bl I q (by simp))
    | _ => exact absurd (show false = true from hs) Bool.false_ne_true
  | int i =>
    obtain ⟨t, rfl⟩ := rx
    cases y with
    | non => cases ry; exact PySem.EqNone.eq_int_none (fin_bl I q (by simp))
    | int j => obtain ⟨t', rfl⟩ := ry; exact eq_int (fin_bl I q dec_int)
    | str j => obtain ⟨t', rfl⟩ := ry; exact PySem.EqMixed.eq_int_str (fin_bl I q (by simp))
    | _ => exact absurd (show false = true from hs) Bool.false_ne_true
  | str i =>
    obtain ⟨t, rfl⟩ := rx
    cases y with
    | non => cases ry; exact PySem.EqNone.eq_str_none (fin_bl I q (by simp))
    | bl j => cases ry; exact PySem.EqMixed.eq_str_bool (fin_bl I q (by simp))
    | int j => obtain ⟨t', rfl⟩ := ry; exact PySem.EqMixed.eq_str_int (fin_bl I q (by simp))
    | str j => obtain ⟨t', rfl⟩ := ry; exact eq_str (fin_bl I q dec_str)
    | _ => exact absurd (show false = true from hs) Bool.false_ne_true
  | byt i =>
    obtain ⟨t, rfl⟩ := rx
    cases y with
    | byt j => obtain ⟨t', rfl⟩ := ry; exact PySem.W.eq_bytes (fin_bl I q dec_byt)
    | _ => exact absurd (show false = true from hs) Bool.false_ne_true
  | _ => cases y <;> exact absurd (show false = true from hs) Bool.false_ne_true
theorem op_ne : OpR X (compareOp .NotEq) rNe := by
  intro pins s σ H x y v u Q I rx ry h
  obtain ⟨hs, q⟩ := h
  cases x with
  | non =>
    cases rx
    cases y with
    | non => cases ry; exact PySem.EqNone.ne_none_none (fin_bl I q (by simp))
    | bl j => cases ry; exact PySem.EqNone.ne_none_bool (fin_bl I q (by simp))
    | int j => obtain ⟨t', rfl⟩ := ry; exact PySem.EqNone.ne_none_int (fin_bl I q (by simp))
    | str j => obtain ⟨t', rfl⟩ := ry; exact PySem.EqNone.ne_none_str (fin_bl I q (by simp))
    | _ => exact absurd (show false = true from hs) Bool.false_ne_true
  | bl i =>
    cases rx
    cases y with
    | non => cases ry; exact PySem.EqNone.ne_bool_none (fin_bl I q (by simp))
    | bl j => cases ry; exact ne_bool (fin_bl I q (congrArg not dec_bl))
    | str j => obtain ⟨t', rfl⟩ := ry; exact PySem.EqMixed.ne_bool_str (fin_bl I q (by simp))
    | _ => exact absurd (show false = true from hs) Bool.false_ne_true
  | int i =>
    obtain ⟨t, rfl⟩ := rx
    cases y with
    | non => cases ry; exact PySem.EqNone.ne_int_none (fin_bl I q (by simp))
    | int j => obtain ⟨t', rfl⟩ := ry; exact ne_int (fin_bl I q (congrArg not dec_int))
    | str j => obtain ⟨t', rfl⟩ := ry; exact PySem.EqMixed.ne_int_str (fin_bl I q (by simp))
    | _ => exact absurd (show false = true from hs) Bool.false_ne_true
  | str i =>
    obtain ⟨t, rfl⟩ := rx
    cases y with
    | non => cases ry; exact PySem.EqNone.ne_str_none (fin_bl I q (by simp))
    | bl j => cases ry; exact PySem.EqMixed.ne_str_bool (fin_bl I q (by simp))
    | int j => obtain ⟨t', rfl⟩ := ry; exact PySem.EqMixed.ne_str_int (fin_bl I q (by simp))
    | str j => obtain ⟨t', rfl⟩ := ry; exact ne_str (fin_bl I q (congrArg not dec_str))
    | _ => exact absurd (show false = true from hs) Bool.false_ne_true
  | byt i =>
    obtain ⟨t, rfl⟩ := rx
    cases y with
    | byt j => obtain ⟨t', rfl⟩ := ry; exact PySem.W.ne_bytes (fin_bl I q (congrArg not dec_byt))
    | _ => exact absurd (show false = true from hs) Bool.false_ne_true
  | _ => cases y <;> exact absurd (show false = true from hs) Bool.false_ne_true

theorem op_lt : OpR X (compareOp .Lt) (rI0 fun i j => .bl (decide (i < j))) := opB0 fun _ _ _ _ _ _ _ q => lt_int q
theorem op_gt : OpR X (compareOp .Gt) (rI0 fun i j => .bl (decide (j < i))) := opB0 fun _ _ _ _ _ _ _ q => gt_int q
theorem op_isN : OpR X (compareOp .Is) (fun x y H Q => y = .non ∧ Q (.bl (decide (x = .non))) H) := by
  intro pins s σ H x y v u Q I rx ry h
  obtain ⟨rfl, q⟩ := h
  cases ry
  refine is_none_gen (fin_bl I q ?_)
  cases x <;> first
    | (cases rx; rfl)
    | (obtain ⟨t, rfl⟩ := rx; rfl)
theorem nomark (b : Expr) {op : CmpOp} (h : op ≠ .In := by decide) (h2 : op ≠ .NotIn := by decide) : behindInMarks op b = false := by
  have e1 : (op == CmpOp.In) = false := by cases op <;> first | rfl | exact absurd rfl h
  have e2 : (op == CmpOp.NotIn) = false := by cases op <;> first | rfl | exact absurd rfl h2
  cases b <;> simp [behindInMarks, e1, e2]
theorem pe_cmpR {op : CmpOp} {r : R2} (ho : OpR X (compareOp op) r) (ha : PE X a ta) (hb : PE X b tb) (hm : behindInMarks op b = false) : PE X (.Compare a [op] [b] pos) (tOp r ta tb) := by
  intro pins s σ H Q I h
  exact wpAny_Compare1 (binT ha hb I h fun v u s2 x y H2 I2 rx ry q => ho pins s2 σ H2 x y v u Q I2 rx ry q) hm
def tTest (t : TE) : TT := fun σ H Q => t σ H fun x H' => ∃ k, x = .bl k ∧ Q k H'
theorem pt_cmpR {op : CmpOp} {r : R2} (ho : OpR X (compareOp op) r) (ha : PE X a ta) (hb : PE X b tb) (hm : behindInMarks op b = false) : PT X (.Compare a [op] [b] pos) (tTest (tOp r ta tb)) := by
  intro pins s σ H Q I h
  refine wpAny_isTrue_Compare1 (thn (ha pins s σ H _ I h) fun v s1 ⟨x, H1, I1, r1, q1⟩ => thn (hb pins s1 σ H1 _ I1 q1) fun u s2 ⟨y, H2, I2, r2, q2⟩ =>
    thn (ho pins s2 σ H2 x y v u _ I2 r1 r2 q2) fun c s3 ⟨z, H3, I3, r3, k, e, q3⟩ => ?_) hm
  subst e
  cases r3
  exact wpAny_truthy_bool ⟨H3, I3, q3⟩
theorem line63 : (sizeLine : Nat) < 2 ^ 63 := by rw [sizeLine_eq]; decide
theorem vals1 {x : V} {us : List Value} (r : Vals [x] us) : ∃ u, us = [u] ∧ RelV x u := by
  cases r with
  | cons r1 r2 => cases r2; exact ⟨_, rfl, r1⟩
theorem vals2 {x y : V} {us : List Value} (r : Vals [x, y] us) : ∃ u w', us = [u, w'] ∧ RelV x u ∧ RelV y w' := by
  cases r with
  | cons r1 r2 =>
    cases r2 with
    | cons r3 r4 => cases r4; exact ⟨_, _, rfl, r1, r3⟩
theorem call_abs : CallR X (.builtin "abs") (fun xs H Q => ∃ i, xs = [.int i] ∧ Q (.int (if i < 0 then -i else i)) H) := by
  intro pins s σ H xs us Q I r h
  obtain ⟨i, rfl, q⟩ := h
  obtain ⟨u, rfl, t, rfl⟩ := vals1 r
  exact call_abs_int fun u tk => ⟨.int (if i < 0 then -i else i), H, I.tok _, ⟨_, rfl⟩, q⟩
theorem call_int1 : CallR X (.type "int") (fun xs H Q => (∃ i, xs = [.int i] ∧ Q (.int i) H) ∨ ∃ k, xs = [.bl k] ∧ Q (.int (if k then 1 else 0)) H) := by
  intro pins s σ H xs us Q I r h
  rcases h with ⟨i, rfl, q⟩ | ⟨k, rfl, q⟩
  · obtain ⟨u, rfl, t, rfl⟩ := vals1 r
    exact call_int_int ⟨.int i, H, I, ⟨_, rfl⟩, q⟩
  · obtain ⟨u, rfl, r1⟩ := vals1 r
    cases r1
    exact call_int_bool ⟨.int (if k then 1 else 0), H, I.tok _, ⟨_, rfl⟩, q⟩
end
end L2

namespace L2
open PySem PySem.Spec PyProof.Rows

structure ObjM (h : Heap) (x dx C : Addr) (mA : Str → Option Value) : Prop where
  obj : h.get? x = some (PySem.W.instObj C dx)
  ns : h.Ns1 dx mA
  ne : dx ≠ x

theorem lookIn_ns {h : Heap} {dx : Addr} {mA : Str → Option Value} (n : h.Ns1 dx mA) : ∃ od, h.get? dx = some od ∧ ∀ name, PySem.W.lookIn name od = some (mA name) := by
  obtain ⟨o, es, ep, ho, hd, hk, _, hm⟩ := n
  refine ⟨o, ho, fun name => ?_⟩
  have e := hm name
  unfold nsFind findBy at e
  rw [← Array.find?_toList] at e
  unfold PySem.W.lookIn
  rw [hd]
  dsimp only
  split
  · rename_i y q
    rw [q] at e
    exact congrArg some e
  · rename_i q
    rw [q] at e
    have a : es.toList.any (·.refKey) = false := by
      rw [List.any_eq_false]
      intro y hy
      obtain ⟨z, t, hkey⟩ := hk y (Array.mem_toList_iff.mp hy)
      simp [DictEntry.refKey, hkey]
    have a' : ¬ es.toList.any (·.refKey) = true := by rw [a]; exact Bool.false_ne_true
    rw [if_neg a']
    exact congrArg some e

theorem ObjM.look {h : Heap} {x dx C : Addr} {mA : Str → Option Value} (I : ObjM h x dx C mA) : ∃ od, PySem.W.InstAt h x (PySem.W.instObj C dx) C (some od) ∧ ∀ name, PySem.W.lookIn name od = some (mA name) :=
  let ⟨od, ho, hl⟩ := lookIn_ns I.ns
  ⟨od, ⟨I.obj, rfl, rfl, ho⟩, hl⟩

section
variable {prog : Program} {w : World} {A : Around} {E : Value → Shared → Prop} {s : Shared} {K : PySem.W.Frag} {x dx C f : Addr} {mA : Str → Option Value} {name : Str} {v : Value}

end

section
variable {P : Program} {w : World} {H H' : Hp} {h h' : Heap} {a C dx : Addr} {fs fs' : List (Str × V)}
theorem ins_get (hok : HOk P w H h) (e : H a = some (.ins C dx fs)) : ∃ mA, ObjM h a dx C mA ∧ (∀ f, RelO (fs.lookup f) (mA f)) ∧ PySem.Within mA (fs.map (·.1)) ∧ fs.length ≤ 1000 ∧ H dx = some (.own a) := by
  obtain ⟨d, z, ne, ob, mA, n, r, q⟩ := (show ObjOk P w H h a (.ins C dx fs) from hok a _ e)
  exact ⟨mA, ⟨ob, n, ne⟩, r, q, z, d⟩
end

structure Cls (K : PySem.W.Frag) (C : Addr) : Prop where
  pg : PySem.W.plainGet K C Str.empty = true
  hd : PySem.W.hasDictIn K C = true
  po : PySem.W.plainOver K C = true
  sa : PySem.W.findIn K (.ref C) "__setattr__" = some (some (.builtin "object.__setattr__"))
theorem Cls.get {K : PySem.W.Frag} {C : Addr} (c : Cls K C) (f : Str) : PySem.W.plainGet K C f = true := c.pg
section
variable {X : Cx} {pins : List (Addr × Obj)} {σ : St} {H : Hp} {s : Shared} {a C dx : Addr} {fs : List (Str × V)} {f : Str} {v : V} {A : Around} {E : Value → Shared → Prop}

end

section
variable {X : Cx} {o e value : Expr} {f : Str} {pos pos' tpos : Pos} {ta tv : TE}
end

section
variable {X : Cx} {pins : List (Addr × Obj)} {σ : St} {H : Hp} {s : Shared} {A : Around} {E : Value → Shared → Prop} {Q : Value → Shared → Prop} {c : Value} {b : Bool}
inductive TyOf (K : PySem.W.Frag) (H : Hp) : V → Value → Prop where
  | non : TyOf K H .non (.type "NoneType")
  | bl (x : Bool) : TyOf K H (.bl x) (.type "bool")
  | int (i : Int) : TyOf K H (.int i) (.type "int")
  | str (x : Str) : TyOf K H (.str x) (.type "str")
  | flt (x : UInt64) : TyOf K H (.flt x) (.type "float")
  | lst {a : Addr} {xs : List V} (e : H a = some (.lst xs)) : TyOf K H (.ref a) (.type "list")
  | frz {a : Addr} {o : Obj} {xs : List V} (e : H a = some (.frz o (.lst xs))) : TyOf K H (.ref a) (.type "list")
  | tup {a : Addr} {xs : List V} (e : H a = some (.tup xs)) : TyOf K H (.ref a) (.type "tuple")
  | dK {a : Addr} {kvs : List (Key × V)} (e : H a = some (.dK kvs)) : TyOf K H (.ref a) (.type "dict")
  | dT {a : Addr} {kvs : List (List Key × V)} (e : H a = some (.dT kvs)) : TyOf K H (.ref a) (.type "dict")
  | ins {a C dx : Addr} {fs : List (Str × V)} (e : H a = some (.ins C dx fs)) (cl : Cls K C) (ha : PySem.W.findIn K (.ref C) "__class__" = some (some (.builtin "object.__class__")))
      (hn : PySem.W.specialIn K (.builtin "object.__class__") "__get__" = some (some (.builtin "getset_descriptor.__get__"))) (htk : PySem.W.takesIn K (.builtin "object.__class__") = some true)
      (hm : PySem.W.mroIn K C (.type "object") = some true) : TyOf K H (.ref a) (.ref C)
theorem isinst_ok {x : V} {u t : Value} (I : Inv X pins σ H s) (rx : RelV x u) (ty : TyOf X.K H x t) (e : PySem.W.kitOne X.K t c = some b) (h : ∀ tk, Q (.bool b) { s with toks := tk }) :
    wpAny (model X.prog X.w) A (call (.builtin "isinstance") [u, c]) Q E s := by
  cases ty with
  | non => cases (show u = Value.none from rx); exact PySem.W.kia_one PySem.W.kitx_none I.kIn True.intro e (fun z => nomatch z) h
  | bl y => cases (show u = Value.bool y from rx); exact PySem.W.kia_one PySem.W.kitx_bool I.kIn True.intro e (fun z => nomatch z) h
  | int i => obtain ⟨t, q⟩ := (show ∃ t, u = Value.int i t from rx); cases q; exact PySem.W.kia_one PySem.W.kitx_int I.kIn True.intro e (fun z => nomatch z) h
  | str y => obtain ⟨t, q⟩ := (show ∃ t, u = Value.str y t from rx); cases q; exact PySem.W.kia_one PySem.W.kitx_str I.kIn True.intro e (fun z => nomatch z) h
  | flt y => obtain ⟨t, q⟩ := (show ∃ t, u = Value.float y t from rx); cases q; exact PySem.W.kia_one PySem.W.kitx_float I.kIn True.intro e (fun z => nomatch z) h
  | @lst a xs ea =>
    cases (show u = Value.ref a from rx)
    obtain ⟨_, _, n, _, h1⟩ := (show ObjOk X.prog X.w H s.heap a (.lst xs) from I.hok a _ ea)
    exact PySem.W.kia_one PySem.W.kitx_list I.kIn ⟨_, h1, rfl⟩ e (fun z => nomatch z) h
  | @frz a ob xs ea =>
    cases (show u = Value.ref a from rx)
    obtain ⟨_, _, _, n, _, h1⟩ := (show ObjOk X.prog X.w H s.heap a (.frz ob (.lst xs)) from I.hok a _ ea)
    exact PySem.W.kia_one PySem.W.kitx_list I.kIn ⟨_, h1, rfl⟩ e (fun z => nomatch z) h
  | @tup a xs ea =>
    cases (show u = Value.ref a from rx)
    obtain ⟨_, _, _, p⟩ := (show ObjOk X.prog X.w H s.heap a (.tup xs) from I.hok a _ ea)
    obtain ⟨o, h1, h2, _⟩ := p
    exact PySem.W.kia_one PySem.W.kitx_tuple I.kIn ⟨o, h1, h2.1⟩ e (fun z => nomatch z) h
  | @dK a kvs ea =>
    cases (show u = Value.ref a from rx)
    obtain ⟨_, _, vs, _, p⟩ := (show ObjOk X.prog X.w H s.heap a (.dK kvs) from I.hok a _ ea)
    obtain ⟨o, es, ep, h1, h2, _⟩ := p
    exact PySem.W.kia_one PySem.W.kitx_dict I.kIn ⟨o, h1, h2.1⟩ e (fun z => nomatch z) h
  | @dT a kvs ea =>
    cases (show u = Value.ref a from rx)
    obtain ⟨_, _, xs, _, o, es, ep, h1, h2, _⟩ := (show ObjOk X.prog X.w H s.heap a (.dT kvs) from I.hok a _ ea)
    exact PySem.W.kia_one PySem.W.kitx_dict I.kIn ⟨o, h1, h2.1⟩ e (fun z => nomatch z) h
  | @ins a C dx fs ea cl ha hn htk hm =>
    cases (show u = Value.ref a from rx)
    obtain ⟨mA, O, _⟩ := ins_get I.hok ea
    obtain ⟨od, J, _⟩ := O.look
    exact PySem.W.kia_one (PySem.W.kitx_own (cl.get _) cl.hd ha hn htk hm) I.kIn J e (fun z => nomatch z) h
end
end L2

namespace L2
open PySem PySem.Spec PyProof.Rows

structure Room (k : Nat) (A : Around) : Prop where
  hd : A.handled = none
  dp : A.depth + 3 * k + 5 < recursionLimit
  un : A.units + 16 * k + 200 < cLine
theorem Room.mono {j k : Nat} {A : Around} (r : Room k A) (h : j ≤ k) : Room j A := ⟨r.hd, by have := r.dp; omega, by have := r.un; omega⟩
theorem Room.deeper {k : Nat} {A : Around} (r : Room (k + 1) A) (env : Env) : Room k (A.deeper env) :=
  ⟨r.hd, by have := r.dp; show A.depth + 1 + 3 * k + 5 < _; omega, by have := r.un; show A.units + 3 + 16 * k + 200 < _; omega⟩
theorem Room.depth {k : Nat} {A : Around} (r : Room k A) : A.depth < recursionLimit := by have := r.dp; omega
theorem Room.units {k : Nat} {A : Around} (r : Room k A) : A.units + 64 < cLine := by have := r.un; omega
def tNil : TA := fun _ H Q => Q [] H
def tCons (ta : TE) (tr : TA) : TA := fun σ H Q => ta σ H fun x H1 => tr σ H1 fun xs H2 => Q (x :: xs) H2
section
variable {X : Cx} {e : Expr} {es : List Expr} {te : TE} {t : TA} {pos : Pos}
theorem pa_nil : PA X [] tNil := fun _ _ _ _ H Q I h => Calls.spliced_nil ⟨[], H, I, .nil, h⟩
theorem pa_cons (ha : PE X e te) (hr : PA X es t) (hs : starEach (e :: es) X.env = (false, eval e X.env) :: starEach es X.env := by rfl) : PA X (e :: es) (tCons te t) := by
  intro pos pins s σ H Q I h
  rw [hs]
  show wpAny _ _ (spliced ((false, eval e X.env) :: backTo pos (starEach es X.env))) _ _ s
  refine Calls.spliced_cons (thn (ha pins s σ H _ I h) fun u s1 ⟨x, H1, I1, r1, q1⟩ => ?_)
  exact thn (hr pos pins s1 σ H1 _ I1 q1) fun us s2 ⟨xs, H2, I2, r2, q2⟩ => ⟨x :: xs, H2, I2, .cons r1 r2, q2⟩

def tTup (t : TA) : TE := fun σ H Q => t σ H fun xs H1 => xs.length ≤ sizeLine ∧ ∀ p, H1 p = none → Q (.ref p) (upd H1 p (.tup xs))
def tLst (t : TA) : TE := fun σ H Q => t σ H fun xs H1 => xs.length ≤ sizeLine ∧ ∀ p, H1 p = none → Q (.ref p) (upd H1 p (.lst xs))
theorem pe_tup {x1} (h : PA X es t) : PE X (.Tuple es x1 pos) (tTup t) := by
  intro pins s σ H Q I hq
  refine wpAny_Tuple_spliced (thn (h pos pins s σ H _ I hq) fun us s1 ⟨xs, H1, I1, r, z, q⟩ => ⟨by rw [← r.length]; exact z, ?_⟩)
  have hf : H1 s1.heap.objs.size = none := I1.hok.fresh (Nat.le_refl _)
  refine ⟨.ref s1.heap.objs.size, upd H1 s1.heap.objs.size (.tup xs), I1.laid (t' := s1.toks) (fun b u e => Heap.get?_push_of_some _ e) (Nat.le_refl _) ?_, rfl, q _ hf⟩
  exact ⟨z, us, r, IsTupN.new _ _⟩
theorem pe_lst (h : PA X es t) : PE X (.List es pos) (tLst t) := by
  intro pins s σ H Q I hq
  refine wpAny_List_spliced (thn (h pos pins s σ H _ I hq) fun us s1 ⟨xs, H1, I1, r, z, q⟩ => ⟨by rw [← r.length]; exact z, ?_⟩)
  have hf : H1 s1.heap.objs.size = none := I1.hok.fresh (Nat.le_refl _)
  refine ⟨.ref s1.heap.objs.size, upd H1 s1.heap.objs.size (.lst xs), I1.laid (t' := s1.toks) (fun b u e => Heap.get?_push_of_some _ e) (Nat.le_refl _) ?_, rfl, q _ hf⟩
  exact ⟨z, us, 0, r, Heap.get?_push_size _ rfl⟩
end

abbrev Sp := List V → Hp → VK → XK → Prop
abbrev CXT := List Env → Hp → Shared → XK → Value → Shared → Prop

structure Env0 (P : Program) (w : World) (K : PySem.W.Frag) (mg : Str → Option Value) (base : Heap) (A : Around) (outer : List Env) (s : Shared) (H : Hp) : Prop where
  frames : A.frames = some outer
  mod : Mod K mg base
  bs : ∀ b o, base.get? b = some o → s.heap.get? b = some o ∧ H b = none
  bsz : base.objs.size ≤ s.heap.objs.size
  funs : s.heap.FunFrames base outer
  frf : ∀ b ∈ frs outer, H b = none
  hok : HOk P w H s.heap
  bare : AllBare s.gens
def CE (outer : List Env) (P : Program) (w : World) (H : Hp) (s : Shared) (Q : VK) (u : Value) (s' : Shared) : Prop :=
  ∃ v H', s'.os = s.os ∧ AllBare s'.gens ∧ Un (frs outer) [] H H' s.heap s'.heap ∧ HOk P w H' s'.heap ∧ RelV v u ∧ Q v H'
def CR (CX : CXT) (outer : List Env) (P : Program) (w : World) (H : Hp) (s : Shared) (Q : VK) (E : XK) (r : Result) (s' : Shared) : Prop :=
  match r with
  | .ok (.ret u) => CE outer P w H s Q u s'
  | .ok _ => False
  | .error e => CX outer H s E e s'
structure FnOk (P : Program) (w : World) (K : PySem.W.Frag) (mg : Str → Option Value) (base : Heap) (CX : CXT) (k : Nat) (f : Addr) (fd : FuncData) (ps : List Str) (sp : Sp) : Prop where
  len : ∀ vs H Q E, sp vs H Q E → vs.length = ps.length
  run : ∀ (A : Around) (outer : List Env) (s : Shared) (H : Hp) (args : Args) (us : List Value) (vs : List V) (Q : VK) (E : XK), Room k A → Env0 P w K mg base A outer s H → BindsTo s fd args (ps.zip us) → Vals vs us → sp vs H Q E →
    codeAny (model P w) A (.call (.ref f) args) (CR CX outer P w H s Q E) s
theorem FnOk.mono {P : Program} {w : World} {K : PySem.W.Frag} {mg : Str → Option Value} {base : Heap} {CX : CXT} {j k : Nat} {f : Addr} {fd : FuncData} {ps : List Str} {sp : Sp} (F : FnOk P w K mg base CX j f fd ps sp) (h : j ≤ k) :
    FnOk P w K mg base CX k f fd ps sp := ⟨F.len, fun A outer s H args us vs Q E hr => F.run A outer s H args us vs Q E (hr.mono h)⟩
section
variable {X : Cx} {pins : List (Addr × Obj)} {σ : St} {H : Hp} {s s' : Shared}
theorem Inv.env0 (I : Inv X pins σ H s) : Env0 X.prog X.w X.K X.mg X.base X.A X.stack s H :=
  ⟨I.ok.frames, I.ok.mod, I.bs, Nat.le_trans I.ok.bsz I.sz, I.stack, I.stkFree, I.hok, I.bare⟩
theorem Inv.after {Q : VK} {u : Value} (I : Inv X pins σ H s) (h : CE X.stack X.prog X.w H s Q u s') : EP X pins σ Q u s' := by
  obtain ⟨v, H', os, bare, un, hok, r, q⟩ := h
  obtain ⟨hh, g, d, t, os'⟩ := s'
  obtain rfl : os' = s.os := os
  exact ⟨v, H', I.call (h' := hh) (g' := g) (d' := d) (t' := t) (ch := []) un hok bare (fun b z => absurd z (by simp)), r, q⟩
end

def tCall (sp : Sp) (dvs : List V) (E : XK) (t : TA) : TE := fun σ H Q => t σ H fun vs H1 => sp (vs ++ dvs) H1 Q E
def Binds (K : PySem.W.Frag) (fd : FuncData) (ps : List Str) (ds : List Value) : Prop :=
  ∀ (s : Shared) (us : List Value), K.In s.heap → (us ++ ds).length = ps.length → BindsTo s fd ⟨us, []⟩ (ps.zip (us ++ ds))
theorem Binds.all {K : PySem.W.Frag} {fd : FuncData} {ps : List Str} (h : ∀ us : List Value, us.length = ps.length → bindArgs fd ⟨us, []⟩ = pure (ps.zip us)) : Binds K fd ps [] := fun s us _ hl => by
  rw [List.append_nil] at hl ⊢
  exact .of_eq (h us hl)

def Passes (CX : CXT) (X : Cx) (E : XK) : Prop := ∀ (pins : List (Addr × Obj)) (σ : St) (H : Hp) (s : Shared) (e : Value) (s' : Shared), Inv X pins σ H s → CX X.stack H s E e s' → X.xe e s'

section
variable {X : Cx} {CX : CXT} {k : Nat} {f C : Addr} {fd : FuncData} {ps : List Str} {sp : Sp} {dvs : List V} {ds : List Value} {E : XK} {x m : Str} {p pos apos : Pos} {e o : Expr} {es : List Expr} {ta : TE} {t : TA}

theorem run_fn {pins : List (Addr × Obj)} {σ : St} {H : Hp} {s : Shared} {Q : VK} {us : List Value} {vs : List V} (F : FnOk X.prog X.w X.K X.mg X.base CX k f fd ps sp) (hr : Room k X.A) (hb : Binds X.K fd ps ds) (hd : Vals dvs ds) (hx : Passes CX X E)
    (I : Inv X pins σ H s) (r : Vals vs us) (h : sp (vs ++ dvs) H Q E) : wpAny (model X.prog X.w) X.A (call (.ref f) us) (EP X pins σ Q) X.xe s := by
  have r2 : Vals (vs ++ dvs) (us ++ ds) := r.append hd
  have hl : (us ++ ds).length = ps.length := by rw [← r2.length]; exact F.len _ _ _ _ h
  refine wpAny_call (codeAny_mono (F.run X.A X.stack s H ⟨us, []⟩ (us ++ ds) (vs ++ dvs) Q E hr I.env0 (hb s us I.kIn hl) r2 h) fun r s' hq => ?_)
  cases r with
  | error e => exact hx pins σ H s e s' I hq
  | ok fl =>
    cases fl with
    | ret u => exact I.after hq
    | next => exact False.elim hq
    | brk => exact False.elim hq
    | cont => exact False.elim hq

theorem pe_call (F : FnOk X.prog X.w X.K X.mg X.base CX k f fd ps sp) (hr : Room k X.A) (hg : Gl X x) (hm : X.mg x = some (.ref f)) (hk : PySem.W.keepIn X.K (.ref f) = true) (hb : Binds X.K fd ps ds) (hd : Vals dvs ds) (hx : Passes CX X E)
    (ha : PA X (e :: es) t) (hdb : (x == ("__debug__" : Str)) = false := by decide) (he : starEach (e :: es) X.env = (false, eval e X.env) :: starEach es X.env := by rfl) (hpl : (backTo pos (starEach es X.env)).any (·.1) = false := by rfl) :
    PE X (.Call (.Name x p) (e :: es) [] pos) (tCall sp dvs E t) := by
  intro pins s σ H Q I h
  refine wpAny_Call_Name_kw (ld_glob I hg hm ?_ hdb)
  refine PySem.W.callWith_K (h₀ := X.base) I.ok.mod.kin hk (thn (ha pos pins s σ H _ I h) fun us s1 ⟨vs, H1, I1, r, q⟩ => ⟨I1.kIn, ?_⟩) he hpl
  exact run_fn F hr hb hd hx I1 r q
end

section
variable {X : Cx} {CX : CXT} {k : Nat} {f C : Addr} {fd : FuncData} {ps ks : List Str} {sp : Sp} {E : XK} {x m : Str} {p pos apos kpos : Pos} {e o : Expr} {es : List Expr} {kws : List Keyword} {te ta : TE} {t tk : TA} {nm : Option Str}
variable {g : List Value → List Value → List Value} {gV : List V → List V → List V}
end

structure FnScope (N P : List Str) (sc : Scope) : Prop where
  kind : sc.kind = .function
  co : sc.isCoroutine = false
  gen : sc.isGenerator = false
  nd : N.Nodup
  pre : N.take P.length = P
  par : ∀ x ∈ P, sc.names.lookup x = some .local ∨ sc.names.lookup x = some .cell
  nofree : ∀ y ∈ sc.names, y.2 ≠ .free

theorem bindL_out {kindOf : Str → Option NameKind} {x : Str} : ∀ {binds : List (Str × Value)} {m : Str → Option Value}, (∀ v, (x, v) ∉ binds) → bindL kindOf binds m x = m x
  | [], _, _ => rfl
  | (n, v) :: r, m, h => by
    unfold bindL
    rw [bindL_out fun w hw => h w (List.mem_cons_of_mem _ hw)]
    split
    · have : x ≠ n := by rintro rfl; exact h v List.mem_cons_self
      simp [this]
    · rfl
theorem bindC_out {kindOf : Str → Option NameKind} {x : Str} : ∀ {binds : List (Str × Value)} {m : Str → Option Value}, (∀ v, (x, v) ∉ binds) → bindC kindOf binds m x = m x
  | [], _, _ => rfl
  | (n, v) :: r, m, h => by
    unfold bindC
    rw [bindC_out fun w hw => h w (List.mem_cons_of_mem _ hw)]
    split
    · rfl
    · have : x ≠ n := by rintro rfl; exact h v List.mem_cons_self
      simp [this]
theorem bindL_get {kindOf : Str → Option NameKind} {x : Str} {v : Value} : ∀ {P : List Str} {vs : List Value} {i : Nat} {m : Str → Option Value}, P.Nodup → P[i]? = some x → vs[i]? = some v → kindOf x = some .local →
    bindL kindOf (P.zip vs) m x = some v
  | [], _, _, _, _, h, _, _ => by simp at h
  | _ :: _, [], _, _, _, _, h, _ => by simp at h
  | p :: P, w :: vs, 0, m, nd, h1, h2, hk => by
    simp at h1 h2; subst h1; subst h2
    show bindL kindOf ((p, w) :: P.zip vs) m p = _
    unfold bindL
    rw [bindL_out fun v hv => (List.nodup_cons.mp nd).1 (List.of_mem_zip hv).1, if_pos hk]
    simp
  | p :: P, w :: vs, i + 1, m, nd, h1, h2, hk => by
    show bindL kindOf ((p, w) :: P.zip vs) m x = _
    unfold bindL
    exact bindL_get (i := i) (List.nodup_cons.mp nd).2 (by simpa using h1) (by simpa using h2) hk
theorem bindC_get {kindOf : Str → Option NameKind} {x : Str} {v : Value} : ∀ {P : List Str} {vs : List Value} {i : Nat} {m : Str → Option Value}, P.Nodup → P[i]? = some x → vs[i]? = some v → kindOf x ≠ some .local →
    bindC kindOf (P.zip vs) m x = some v
  | [], _, _, _, _, h, _, _ => by simp at h
  | _ :: _, [], _, _, _, _, h, _ => by simp at h
  | p :: P, w :: vs, 0, m, nd, h1, h2, hk => by
    simp at h1 h2; subst h1; subst h2
    show bindC kindOf ((p, w) :: P.zip vs) m p = _
    unfold bindC
    rw [bindC_out fun v hv => (List.nodup_cons.mp nd).1 (List.of_mem_zip hv).1, if_neg hk]
    simp
  | p :: P, w :: vs, i + 1, m, nd, h1, h2, hk => by
    show bindC kindOf ((p, w) :: P.zip vs) m x = _
    unfold bindC
    exact bindC_get (i := i) (List.nodup_cons.mp nd).2 (by simpa using h1) (by simpa using h2) hk

def start (N : List Str) (vs : List V) : St := vs.map some ++ List.replicate (N.length - vs.length) none

def cxOf (CX : CXT) (P : Program) (w : World) (K : PySem.W.Frag) (mg : Str → Option Value) (base : Heap) (N : List Str) (qual : Str) (scope : Scope) (f : Addr) (cd : Value) (A : Around) (outer : List Env) (s : Shared) (H : Hp) (E : XK) : Cx where
  prog := P
  w := w
  K := K
  mg := mg
  base := base
  A := A.deeper (envOfC qual scope s.heap.objs.size f cd)
  N := N
  s₀ := s
  H₀ := H
  env := envOfC qual scope s.heap.objs.size f cd
  outer := outer
  stack := envOfC qual scope s.heap.objs.size f cd :: outer
  ex := []
  calm := true
  fn := fun _ => true
  pn := []
  xe := fun e s' => wpAny (model P w) (A.deeper (envOfC qual scope s.heap.objs.size f cd)) (leaving (envOfC qual scope s.heap.objs.size f cd) e) (fun _ s'' => CX outer H s E e s'') (fun e' s'' => CX outer H s E e' s'') s'

theorem cell_has {sc : Scope} {n : Nat} {x : Str} (h : sc.names.lookup x = some .cell) : ∃ c, (cellsFrom n sc.names []).lookup x = some c := by
  have q := PySem.W.cellsFrom_some sc.names n [] (.inl h)
  exact Option.isSome_iff_exists.mp q

theorem inv_start {CX : CXT} {P : Program} {w : World} {K : PySem.W.Frag} {mg : Str → Option Value} {base : Heap} {N ps : List Str} {qual : Str} {scope : Scope} {f : Addr} {cd : Value} {A : Around} {outer : List Env} {s s1 : Shared} {H : Hp} {E : XK} {us : List Value} {vs : List V}
    (S : FnScope N ps scope) (hd : A.handled = none) (e0 : Env0 P w K mg base A outer s H) (hl : vs.length = ps.length) (r : Vals vs us)
    (x : InCallC s s.heap.objs.size (bindL (envOfC qual scope s.heap.objs.size f cd).kindOf (ps.zip us) fun _ => none) (cellsFrom (s.heap.objs.size + 1) scope.names []) (bindC (envOfC qual scope s.heap.objs.size f cd).kindOf (ps.zip us) fun _ => none) s1) :
    Inv (cxOf CX P w K mg base N qual scope f cd A outer s H E) [] (start N vs) H s1 := by
  have hpl : ps.length ≤ N.length := by have := congrArg List.length S.pre; rw [List.length_take] at this; omega
  obtain ⟨h1, tk, rfl, hk⟩ := x.done
  have noA : ∀ b : Addr, b ∉ (cxOf CX P w K mg base N qual scope f cd A outer s H E).ex := fun b z => absurd (show b ∈ ([] : List Addr) from z) (by simp)
  refine ⟨⟨e0.mod, S.kind, rfl, rfl, Nat.le_refl _, fun y z c h1 h2 => ?_, fun y hy => ?_, fun y c _ h => ?_, fun _ => hd, Around.frames_deeper e0.frames, .inr ⟨rfl, rfl⟩, fun b z => absurd z (noA b), e0.bs, e0.bsz, fun b _ _ => noA b, fun b z => absurd z (noA b), e0.funs, e0.frf⟩,
    rfl, e0.bare, Un.kept hk, ⟨_, x.toInCall.ns, fun i y v h1 h2 h3 => ?_⟩, fun y c h => ⟨_, x.cell y c h⟩, e0.hok.fresh (Nat.le_refl _), fun y c h => ?_, fun p hp => absurd (show p ∈ ([] : List (Addr × Obj)) from hp) (by simp), e0.hok.kept hk, ?_⟩
  · exact name_of_addr x.apart (PySem.mem_of_lookup h1) (PySem.mem_of_lookup h2)
  · have hy : scope.names.lookup y = some .cell ∨ scope.names.lookup y = some .free := hy
    rcases hy with hy | hy
    · exact cell_has hy
    · exact absurd rfl (S.nofree _ (PySem.mem_of_lookup hy))
  · exact Nat.le_of_lt (x.above y c (PySem.mem_of_lookup h))
  · have hi : i < vs.length := by
      unfold start at h2
      by_cases hi : i < vs.length
      · exact hi
      · rw [List.getElem?_append_right (by simpa using hi)] at h2
        rw [List.getElem?_replicate] at h2
        split at h2 <;> cases h2
    have ha : vs[i]? = some v := by
      unfold start at h2
      rw [List.getElem?_append_left (by simpa using hi), List.getElem?_map] at h2
      cases e : vs[i]? with
      | none => rw [e] at h2; cases h2
      | some a => rw [e] at h2; cases h2; rfl
    obtain ⟨u, hu, rv⟩ := r.get ha
    have hp : ps[i]? = some y := by
      rw [← S.pre, List.getElem?_take_of_lt (by omega)]; exact h1
    have ndP : ps.Nodup := by rw [← S.pre]; exact S.nd.sublist (List.take_sublist _ _)
    refine ⟨u, rv, ?_⟩
    rcases S.par y (List.mem_of_getElem? hp) with k | k
    · exact .inl ⟨k, bindL_get ndP hp hu k⟩
    · obtain ⟨c, e⟩ := cell_has (n := s.heap.objs.size + 1) k
      refine .inr ⟨.inl k, c, e, ?_⟩
      have q := x.cell y c e
      rw [bindC_get ndP hp hu (by show scope.names.lookup y ≠ _; rw [k]; decide)] at q
      exact q
  · exact e0.hok.fresh (Nat.le_of_lt (x.above y c (PySem.mem_of_lookup h)))
  · unfold start
    show _ = N.length
    rw [List.length_append, List.length_map, List.length_replicate]
    omega

theorem fn_of {CX : CXT} {P : Program} {w : World} {K : PySem.W.Frag} {mg : Str → Option Value} {base : Heap} {k : Nat} {f : Addr} {name qual : Str} {params : Arguments} {body : List Stmt} {scope : Scope} {dV kV doc pm cdv ct oc : Value} {an od : Option Addr}
    {osl : Array (Option Value)} {N ps : List Str} {sp : Sp} (lk : K.lookup f = some ⟨oc, od, .func (PySem.W.fnOf name qual params body scope dV kV doc pm an cdv ct), osl⟩) (hcd : PySem.W.codeIn K cdv qual = true) (S : FnScope N ps scope)
    (len : ∀ vs H Q E, sp vs H Q E → vs.length = ps.length)
    (hbody : ∀ (A : Around) (outer : List Env) (s : Shared) (H : Hp) (vs : List V) (Q : VK) (E : XK), Room k (A.deeper (envOfC qual scope s.heap.objs.size f cdv)) → sp vs H Q E →
      ∃ t, PSs (cxOf CX P w K mg base N qual scope f cdv A outer s H E) body t ∧ t { nx := fun _ H' => Q .non H', rt := Q } (start N vs) H) :
    FnOk P w K mg base CX (k + 1) f (PySem.W.fnOf name qual params body scope dV kV doc pm an cdv ct) ps sp := by
  refine ⟨len, fun A outer s H args us vs Q E hr e0 hb r hsp => ?_⟩
  have hl := len _ _ _ _ hsp
  have KX : K.In s.heap := e0.mod.kin.keeps fun b o e => (e0.bs b o e).1
  have lim : s.heap.NoLimit := e0.mod.nolimit.keeps fun b o e => (e0.bs b o e).1
  have hkind : ∀ y ∈ ps.zip us, scope.names.lookup y.1 = some .local ∨ (scope.names.lookup y.1 = some .cell ∧ ((cellsFrom (s.heap.objs.size + 1) scope.names []).lookup y.1).isSome = true) := fun ⟨n, v⟩ hy => by
    rcases S.par n (List.of_mem_zip hy).1 with q | q
    · exact .inl q
    · exact .inr ⟨q, PySem.W.cellsFrom_some _ _ _ (.inl q)⟩
  refine codeAny_call_function hr.depth (KX _ _ lk) rfl S.co S.gen rfl (PySem.W.codeRec_of KX hcd) (hb _ _ _ _ ?_)
  refine wpAny_newFunctionEnv_cells S.kind hkind fun env he s1 x => ?_
  subst he
  refine ⟨lim.keeps x.toInCall.keep, codeAny_func ?_⟩
  obtain ⟨t, ht, hq⟩ := hbody A outer s H vs Q E (hr.deeper _) hsp
  have I : Inv (cxOf CX P w K mg base N qual scope f cdv A outer s H E) [] (start N vs) H s1 := inv_start S hr.hd e0 hl r x
  refine wpAny_mono (ht [] s1 (start N vs) H _ I hq) (fun fl s' hs => ?_) fun e s' hs => hs
  have fin : ∀ {σ' : St} {H' : Hp} {v : V} {u : Value}, Inv (cxOf CX P w K mg base N qual scope f cdv A outer s H E) [] σ' H' s' → RelV v u → Q v H' → CE outer P w H s Q u s' :=
    fun {σ' H' v u} J rv q => ⟨v, H', J.os, J.bare, J.base, J.hok, rv, q⟩
  cases fl with
  | ret u =>
    obtain ⟨v, σ', H', J, rv, q⟩ := hs
    exact fin J rv q
  | next =>
    obtain ⟨σ', H', J, q⟩ := hs
    exact fin (v := V.non) (u := Value.none) J rfl q
  | brk =>
    obtain ⟨_, _, _, q⟩ := hs
    exact False.elim q
  | cont =>
    obtain ⟨_, _, _, q⟩ := hs
    exact False.elim q
end L2

namespace L2
open PySem PySem.Spec PyProof.Rows
section
variable {X : Cx} {x : Str} {p pos : Pos} {e : Expr} {es : List Expr} {t : TA} {id T : String} {r : List V → Hp → VK → Prop}

def tCB (r : List V → Hp → VK → Prop) (t : TA) : TE := fun σ H Q => t σ H fun vs H1 => r vs H1 Q
theorem pe_callB (hc : CallR X (.builtin id) r) (hg : Gl X x) (hm : X.mg x = none) (hv : bootBuiltins x = some (.builtin id)) (ha : PA X (e :: es) t) (hn : x ≠ "__name__" := by decide) (hdb : (x == ("__debug__" : Str)) = false := by decide)
    (he : starEach (e :: es) X.env = (false, eval e X.env) :: starEach es X.env := by rfl) (hpl : (backTo pos (starEach es X.env)).any (·.1) = false := by rfl) : PE X (.Call (.Name x p) (e :: es) [] pos) (tCB r t) := by
  intro pins s σ H Q I h
  refine wpAny_Call_Name_kw (ld_blt I hg hm hv ?_ hn hdb)
  exact PyProof.Rows.callWith_builtin1 (thn (ha pos pins s σ H _ I h) fun us s1 ⟨vs, H1, I1, r1, q1⟩ => hc pins s1 σ H1 vs us Q I1 r1 q1) he hpl
theorem pe_callTy (hc : CallR X (.type T) r) (hg : Gl X x) (hm : X.mg x = none) (hv : bootBuiltins x = some (.type T)) (ha : PA X (e :: es) t) (hn : x ≠ "__name__" := by decide) (hdb : (x == ("__debug__" : Str)) = false := by decide)
    (he : starEach (e :: es) X.env = (false, eval e X.env) :: starEach es X.env := by rfl) (hpl : (backTo pos (starEach es X.env)).any (·.1) = false := by rfl) : PE X (.Call (.Name x p) (e :: es) [] pos) (tCB r t) := by
  intro pins s σ H Q I h
  refine wpAny_Call_Name_kw (ld_blt I hg hm hv ?_ hn hdb)
  exact PyProof.Rows.callWith_type1 (thn (ha pos pins s σ H _ I h) fun us s1 ⟨vs, H1, I1, r1, q1⟩ => hc pins s1 σ H1 vs us Q I1 r1 q1) he hpl
end
end L2



set_option Elab.async false
set_option linter.all false
set_option maxRecDepth 100000
namespace HT
open PySem PyProof.Rows

section
open PySem.SeqAt
open PySem.AutoSeq1 (wpAny_loadPart')
open PySem.MeetsSeq PySem.MeetsSeq2 PySem.MeetsSeq3

end

section
variable {prog : Program} {w : World} {A : Around} {E : Value → Shared → Prop} {s : Shared}

end
end HT

namespace L2
open PySem PySem.Spec PyProof.Rows

section
variable {X : Cx} {e : Expr} {te : TE} {lo hi : Option Expr} {tl th : TO} {pos p2 : Pos}

end
end L2

namespace L2
open PySem PySem.Spec PyProof.Rows

def ixN (n : Nat) (i : Int) : Option Nat := if 0 ≤ i then (if i < n then some i.toNat else none) else if -(n : Int) ≤ i then some (i + n).toNat else none
def atI {α : Type} (xs : List α) (i : Int) : Option α := (ixN xs.length i).bind fun j => xs[j]?
theorem ixN_seq {n : Nat} {i : Int} {j : Nat} (h : ixN n i = some j) : seqIndex? i n = some j ∧ j < n ∧ -(n : Int) ≤ i ∧ i < n := by
  unfold ixN at h
  by_cases h0 : 0 ≤ i
  · rw [if_pos h0] at h
    by_cases h1 : i < n
    · rw [if_pos h1] at h
      have e : i.toNat = j := Option.some.inj h
      exact ⟨by rw [seqIndex_of h0 h1, e], by omega, by omega, h1⟩
    · rw [if_neg h1] at h; cases h
  · rw [if_neg h0] at h
    by_cases h1 : -(n : Int) ≤ i
    · rw [if_pos h1] at h
      have e : (i + n).toNat = j := Option.some.inj h
      exact ⟨by rw [seqIndex_neg (by omega) h1, e], by omega, h1, by omega⟩
    · rw [if_neg h1] at h; cases h
theorem atI_get {α : Type} {xs : List α} {i : Int} {v : α} (h : atI xs i = some v) : ∃ j, seqIndex? i xs.length = some j ∧ xs[j]? = some v ∧ j < xs.length ∧ -(xs.length : Int) ≤ i ∧ i < xs.length := by
  unfold atI at h
  cases e : ixN xs.length i with
  | none => rw [e] at h; cases h
  | some j =>
    rw [e] at h
    obtain ⟨h1, h2, h3, h4⟩ := ixN_seq e
    exact ⟨j, h1, h, h2, h3, h4⟩
theorem atI_nat {α : Type} {xs : List α} {j : Nat} {v : α} (h : xs[j]? = some v) : atI xs (j : Int) = some v := by
  have hj : j < xs.length := (List.getElem?_eq_some_iff.mp h).1
  have e : ixN xs.length (j : Int) = some j := by
    unfold ixN
    rw [if_pos (by omega), if_pos (by omega)]; simp
  unfold atI; rw [e]; exact h
def PlainIx (b : Expr) : Prop := ∀ o i, subscripted b false o i = operate [o, i] (getItem o i)
def IxR (X : Cx) (r : R2) : Prop :=
  ∀ (value slice : Expr) (pins : List (Addr × Obj)) (s : Shared) (σ : St) (H : Hp) (x y : V) (v u : Value) (Q : VK), Inv X pins σ H s → RelV x v → RelV y u → r x y H Q →
    subscripted slice false v u = operate [v, u] (getItem v u) → wpAny (model X.prog X.w) X.A (subscriptTail value slice v u) (EP X pins σ Q) X.xe s
def MtR (X : Cx) (id : String) (r : V → List V → Hp → VK → Prop) : Prop :=
  ∀ (pins : List (Addr × Obj)) (s : Shared) (σ : St) (H : Hp) (x : V) (xs : List V) (v : Value) (us : List Value) (Q : VK), Inv X pins σ H s → RelV x v → Vals xs us → r x xs H Q →
    wpAny (model X.prog X.w) X.A (call (.builtin id) (v :: us)) (EP X pins σ Q) X.xe s
section
variable {X : Cx} {a b : Expr} {ta tb : TE} {pos : Pos}
theorem pe_ix {r : R2} (hr : IxR X r) (ha : PE X a ta) (hb : PE X b tb) (hs : PlainIx b) : PE X (.Subscript a b pos) (tOp r ta tb) := by
  intro pins s σ H Q I h
  exact Subscript_ (binT ha hb I h fun v u s2 x y H2 I2 rx ry q => hr a b pins s2 σ H2 x y v u Q I2 rx ry q (hs _ _))

def rIxL (K : PySem.W.Frag) : R2 := fun x y H Q => ∃ p xs i v, x = .ref p ∧ y = .int i ∧ SqL K H p xs ∧ atI xs i = some v ∧ Q v H
def rIxT (K : PySem.W.Frag) : R2 := fun x y H Q => ∃ p xs i v, x = .ref p ∧ y = .int i ∧ SqT K H p xs ∧ atI xs i = some v ∧ Q v H
theorem ix_list : IxR X (rIxL X.K) := by
  intro value slice pins s σ H x y v u Q I rx ry h hs
  obtain ⟨p, xs, i, z, rfl, rfl, hq, he, q⟩ := h
  cases rx
  obtain ⟨t, rfl⟩ := ry
  obtain ⟨its, r, pl, hz⟩ := I.list hq
  obtain ⟨j, h1, h2, h3, h4, h5⟩ := atI_get he
  obtain ⟨w, ew, rw'⟩ := r.get h2
  have hl := r.length
  have hn := line63
  have fin : EP X pins σ Q w s := ⟨z, H, I, rw', q⟩
  by_cases h0 : 0 ≤ i
  · have hj : i.toNat = j := by
      rw [seqIndex_of h0 h5] at h1
      exact Option.some.inj h1
    exact item_listR pl.isList h0 (by omega) (by rw [hj]; simpa using ew) fin hs
  · have hj : (i + (its.toArray.size : Int)).toNat = j := by
      rw [seqIndex_neg (by omega) h4] at h1
      rw [List.size_toArray, ← hl]
      exact Option.some.inj h1
    exact subscriptTail_builtinR (x := w) pl.isList.typeIs slot_list_getitem.lookup
      (wpAny_getItem_list_neg (Q := fun r s' => r = w ∧ EP X pins σ Q r s') pl.isList (by omega) (by rw [List.size_toArray] <;> omega) (by omega) (by rw [hj]; simpa using ew) ⟨rfl, fin⟩) hs
theorem ix_tup : IxR X (rIxT X.K) := by
  intro value slice pins s σ H x y v u Q I rx ry h hs
  obtain ⟨p, xs, i, z, rfl, rfl, hq, he, q⟩ := h
  cases rx
  obtain ⟨t, rfl⟩ := ry
  obtain ⟨its, r, pl, hz⟩ := I.tuple hq
  obtain ⟨j, h1, h2, h3, h4, h5⟩ := atI_get he
  obtain ⟨w, ew, rw'⟩ := r.get h2
  have hl := r.length
  have hn := line63
  have fin : EP X pins σ Q w s := ⟨z, H, I, rw', q⟩
  exact subscriptTail_builtinR (x := w) pl.typeIs slot_tuple_getitem.lookup
    (getItem_tuple (j := j) (Q := fun r s' => r = w ∧ EP X pins σ Q r s') pl (by omega) (by omega) (by rw [List.size_toArray, ← hl]; exact h1) (by simpa using ew) ⟨rfl, fin⟩) hs
theorem mapSeq_set (its : List Value) (n j : Nat) (u : Value) : Obj.mapSeq (·.setIfInBounds j u) { cls := .type "list", data := .seq its.toArray n } = { cls := .type "list", data := .seq (its.set j u).toArray n } := by
  simp [Obj.mapSeq]
theorem Inv.lst {pins : List (Addr × Obj)} {σ : St} {H : Hp} {s : Shared} {p : Addr} {xs : List V} (I : Inv X pins σ H s) (h : H p = some (.lst xs)) :
    ∃ (its : List Value) (n : Nat), Vals xs its ∧ s.heap.get? p = some { cls := .type "list", data := .seq its.toArray n } ∧ xs.length ≤ sizeLine := by
  obtain ⟨z, its, n, r, e⟩ := I.hok p _ h
  exact ⟨its, n, r, e, z⟩
theorem Inv.lstUpd {pins : List (Addr × Obj)} {σ : St} {H : Hp} {s : Shared} {p : Addr} {xs ys : List V} {its its' : List Value} {n n' : Nat} {f : Obj → Obj} (I : Inv X pins σ H s) (h : H p = some (.lst xs))
    (ho : s.heap.get? p = some { cls := .type "list", data := .seq its.toArray n }) (hf : f { cls := .type "list", data := .seq its.toArray n } = { cls := .type "list", data := .seq its'.toArray n' }) (r : Vals ys its') (hz : ys.length ≤ sizeLine) (t : Nat) :
    Inv X pins σ (upd H p (.lst ys)) { s with heap := s.heap.update p f, toks := t } := by
  have e : (s.heap.update p f).get? p = some { cls := .type "list", data := .seq its'.toArray n' } := by
    rw [Heap.get?_update_self f ho (by rw [hf] <;> rfl), hf]
  refine I.write (x := p) (e := p) (by rw [h]; trivial) (.inl rfl) (fun b u hb q => (Heap.get?_update_other _ _ (Ne.symm hb)).trans q) ⟨_, e⟩ ?_
  exact ⟨hz, its', n', r, e⟩
def rSetL : V → V → V → Hp → (Hp → Prop) → Prop := fun o i v H Q => ∃ p xs k j, o = .ref p ∧ i = .int k ∧ H p = some (.lst xs) ∧ ixN xs.length k = some j ∧ Q (upd H p (.lst (xs.set j v)))
theorem set_list : PSet X rSetL := by
  intro pins s σ H o i v ov iv u Q I ro ri rv h
  obtain ⟨p, xs, k, j, rfl, rfl, hp, hj, q⟩ := h
  cases ro
  obtain ⟨t, rfl⟩ := ri
  obtain ⟨its, n, r, ho, hz⟩ := I.lst hp
  obtain ⟨h1, h2, h3, h4⟩ := ixN_seq hj
  have hl := r.length
  have hn := line63
  have I' : Inv X pins σ (upd H p (.lst (xs.set j v))) { s with heap := s.heap.update p (Obj.mapSeq (·.setIfInBounds j u)) } :=
    I.lstUpd hp ho (mapSeq_set its n j u) (r.set rv j) (by rw [List.length_set]; exact hz) s.toks
  by_cases h0 : 0 ≤ k
  · have hk : k.toNat = j := by
      rw [seqIndex_of h0 h4] at h1
      exact Option.some.inj h1
    exact PySem.W.ki_setAt ho h0 (by omega) (by rw [List.size_toArray, ← hl]; exact h4) (by rw [hk]; exact ⟨_, I', q⟩)
  · have hk : (k + (its.toArray.size : Int)).toNat = j := by
      rw [seqIndex_neg (by omega) h3] at h1
      rw [List.size_toArray, ← hl]
      exact Option.some.inj h1
    exact PySem.W.ki_setBack ho (by omega) (by rw [List.size_toArray, ← hl]; exact h3) (by omega) (by rw [hk]; exact ⟨_, I', q⟩)

def flatV : V → Bool
  | .non => true
  | .bl _ => true
  | .int _ => true
  | .str _ => true
  | _ => false
def eqV : V → V → Bool
  | .non, .non => true
  | .bl a, .bl b => a == b
  | .bl a, .int b => (if a then 1 else 0) == b
  | .int a, .bl b => a == (if b then 1 else 0)
  | .int a, .int b => a == b
  | .str a, .str b => a == b
  | _, _ => false
theorem eqAt_V {A : Around} {s : Shared} {y x : V} {u v : Value} (ry : RelV y u) (rx : RelV x v) (fy : flatV y = true) (fx : flatV x = true) : SeqAt.EqAt A s u v (eqV y x) := by
  cases y with
  | non =>
    cases ry
    cases x with
    | non => cases rx; exact SeqAt.EqAt.same _
    | bl b => cases rx; exact SeqAt.EqAt.none_bool b
    | int b => obtain ⟨t, rfl⟩ := rx; exact SeqAt.EqAt.none_int b t
    | str b => obtain ⟨t, rfl⟩ := rx; exact SeqAt.EqAt.none_str b t
    | _ => exact absurd (show false = true from fx) Bool.false_ne_true
  | bl a =>
    cases ry
    cases x with
    | non => cases rx; exact SeqAt.EqAt.bool_none a
    | bl b => cases rx; exact SeqAt.EqAt.bool_bool a b
    | int b => obtain ⟨t, rfl⟩ := rx; exact SeqAt.EqAt.bool_int a b t
    | str b => obtain ⟨t, rfl⟩ := rx; exact SeqAt.EqAt.bool_str a b t
    | _ => exact absurd (show false = true from fx) Bool.false_ne_true
  | int a =>
    obtain ⟨t', rfl⟩ := ry
    cases x with
    | non => cases rx; exact SeqAt.EqAt.int_none a t'
    | bl b => cases rx; exact SeqAt.EqAt.int_bool a t' b
    | int b => obtain ⟨t, rfl⟩ := rx; exact SeqAt.EqAt.int_int a t' b t
    | str b => obtain ⟨t, rfl⟩ := rx; exact SeqAt.EqAt.int_str a t' b t
    | _ => exact absurd (show false = true from fx) Bool.false_ne_true
  | str a =>
    obtain ⟨t', rfl⟩ := ry
    cases x with
    | non => cases rx; exact SeqAt.EqAt.str_none a t'
    | bl b => cases rx; exact SeqAt.EqAt.str_bool a t' b
    | int b => obtain ⟨t, rfl⟩ := rx; exact SeqAt.EqAt.str_int a t' b t
    | str b => obtain ⟨t, rfl⟩ := rx; exact SeqAt.EqAt.str_str a t' b t
    | _ => exact absurd (show false = true from fx) Bool.false_ne_true
  | _ => exact absurd (show false = true from fy) Bool.false_ne_true
theorem call_len_seq : CallR X (.builtin "len") (fun xs H Q => ∃ p ys, xs = [.ref p] ∧ (SqL X.K H p ys ∨ SqT X.K H p ys) ∧ Q (.int ys.length) H) := by
  intro pins s σ H xs us Q I r h
  obtain ⟨p, ys, rfl, hq, q⟩ := h
  obtain ⟨u, rfl, rx⟩ := vals1 r
  cases rx
  have hn := line63
  rcases hq with hq | hq
  · obtain ⟨its, r', pl, hz⟩ := I.list hq
    have hlen := r'.length
    exact Calls.call_len_list pl.isList (by simp only [List.size_toArray] <;> omega) ⟨.int ys.length, H, I.tok _, ⟨s.toks + 1, by rw [List.size_toArray, hlen]⟩, q⟩
  · obtain ⟨its, r', pl, hz⟩ := I.tuple hq
    have hlen := r'.length
    exact len_tuple pl (by simp only [List.size_toArray] <;> omega) ⟨.int ys.length, H, I.tok _, ⟨s.toks + 1, by rw [List.size_toArray, hlen]⟩, q⟩
theorem call_list_of : CallR X (.type "list") (fun xs H Q => ∃ p ys, xs = [.ref p] ∧ (SqL X.K H p ys ∨ SqT X.K H p ys) ∧ ∀ l, H l = none → Q (.ref l) (upd H l (.lst ys))) := by
  intro pins s σ H xs us Q I r h
  obtain ⟨p, ys, rfl, hq, q⟩ := h
  obtain ⟨u, rfl, rx⟩ := vals1 r
  cases rx
  have fin : ∀ (its : List Value), Vals ys its → ys.length ≤ sizeLine → ∀ (h' : Heap) (c' : Nat), (∀ b o', s.heap.get? b = some o' → h'.get? b = some o') →
      h'.get? s.heap.objs.size = some { cls := .type "list", dict := none, data := .seq its.toArray c', slots := #[] } → EP X pins σ Q (.ref s.heap.objs.size) { s with heap := h' } := fun its r' hz h' c' kp e =>
    ⟨.ref s.heap.objs.size, _, I.laid (t' := s.toks) kp (Nat.le_refl _) (show ObjOk X.prog X.w _ h' _ (.lst ys) from ⟨hz, its, c', r', e⟩), rfl, q _ (I.hok.fresh (Nat.le_refl _))⟩
  rcases hq with hq | hq
  · obtain ⟨its, r', pl, hz⟩ := I.list hq
    have hlen := r'.length
    obtain ⟨o, ho, hc, n, hd⟩ := pl.isList
    exact call_list_seq p (.inl rfl) ho hc hd (fun h' c' kp e => fin its r' hz h' c' kp e) (by simp only [List.size_toArray] <;> omega)
  · obtain ⟨its, r', pl, hz⟩ := I.tuple hq
    have hlen := r'.length
    obtain ⟨o, ho, hc, n, hd⟩ := pl
    exact call_list_seq p (.inr rfl) ho hc hd (fun h' c' kp e => fin its r' hz h' c' kp e) (by simp only [List.size_toArray] <;> omega)
def tyV (K : PySem.W.Frag) (T : String) (x : V) (H : Hp) : Prop := match x with
  | .str _ => T = "str"
  | .int _ => T = "int"
  | .ref p => (T = "list" ∧ ∃ xs, SqL K H p xs) ∨ (T = "tuple" ∧ ∃ o, K.lookup p = some o ∧ o.cls = .type "tuple" ∧ o.dict = none) ∨
      (T = "dict" ∧ ((∃ kvs, H p = some (.dK kvs)) ∨ ∃ kvs, H p = some (.dT kvs))) ∨ (T = "set" ∧ ∃ S n, H p = some (.set S n))
  | _ => False
theorem tyV_is {pins : List (Addr × Obj)} {σ : St} {H : Hp} {s : Shared} {T : String} {x : V} {v : Value} (I : Inv X pins σ H s) (r : RelV x v) (ty : tyV X.K T x H) :
    s.TypeIs v T ∧ ∀ a, v = .ref a → ∃ ob, s.heap.get? a = some ob ∧ ob.dict = none := by
  cases x with
  | str z =>
    obtain ⟨t, rfl⟩ := r
    cases (show T = "str" from ty)
    exact ⟨typeIs_str s z t, fun _ e => nomatch e⟩
  | int i =>
    obtain ⟨t, rfl⟩ := r
    cases (show T = "int" from ty)
    exact ⟨typeIs_int s i t, fun _ e => nomatch e⟩
  | ref p =>
    cases r
    rcases ty with ⟨rfl, xs, hq⟩ | ⟨rfl, o, hk, hc, hd⟩ | ⟨rfl, hk⟩ | ⟨rfl, S, n, hk⟩
    · obtain ⟨its, _, pl, _⟩ := I.list hq
      refine ⟨pl.isList.typeIs, fun a e => ?_⟩
      cases e
      obtain ⟨o, n, e, c, hd, _⟩ := pl
      exact ⟨o, e, hd⟩
    · refine ⟨⟨o, I.kIn p o hk, hc⟩, fun a e => ?_⟩
      cases e
      exact ⟨o, I.kIn _ o hk, hd⟩
    · have z : ∃ o, s.heap.get? p = some o ∧ o.ExactDict := by
        rcases hk with ⟨kvs, hk⟩ | ⟨kvs, hk⟩
        · obtain ⟨_, _, _, _, o, _, _, e, ex, _⟩ := I.hok p _ hk
          exact ⟨o, e, ex⟩
        · obtain ⟨_, _, _, _, o, _, _, e, ex, _⟩ := I.hok p _ hk
          exact ⟨o, e, ex⟩
      obtain ⟨o, e, ex⟩ := z
      refine ⟨⟨o, e, ex.1⟩, fun a e2 => ?_⟩
      cases e2
      exact ⟨o, e, ex.2.1⟩
    · obtain ⟨o, _, _, _, e, ex, _⟩ := I.hok p _ hk
      refine ⟨⟨o, e, ex.1⟩, fun a e2 => ?_⟩
      cases e2
      exact ⟨o, e, ex.2.1⟩
  | _ => exact False.elim ty
def tBM0 (K : PySem.W.Frag) (T : String) (r : V → List V → Hp → VK → Prop) (to : TE) : TE := fun σ H Q => to σ H fun x H1 => tyV K T x H1 ∧ r x [] H1 Q
def tBM (K : PySem.W.Frag) (T : String) (r : V → List V → Hp → VK → Prop) (to : TE) (t : TA) : TE := fun σ H Q => to σ H fun x H1 => tyV K T x H1 ∧ t σ H1 fun xs H2 => r x xs H2 Q
variable {o e : Expr} {es : List Expr} {to : TE} {t : TA} {name : Str} {apos cpos : Pos} {T id : String} {r : V → List V → Hp → VK → Prop}
theorem pe_bm0 (pa : PlainAttrs T) (slot : Slot T name id) (hty : typeOf (.builtin id) = pure (.type "method_descriptor")) (hm : MtR X id r) (ho : PE X o to)
    (hbase : attributeBase o name X.env (eval o X.env) = eval o X.env := by rfl) (hline : (apos.endLine == cpos.line) = true := by rfl) : PE X (.Call (.Attribute o name apos) [] [] cpos) (tBM0 X.K T r to) := by
  intro pins s σ H Q I h
  refine wpAny_Call_method0_late hbase hline (thn (ho pins s σ H _ I h) fun v s1 ⟨x, H1, I1, r1, ty, q1⟩ => ?_)
  obtain ⟨h1, h2⟩ := tyV_is I1 r1 ty
  exact ⟨T, id, pa, slot, hty, h1, h2, Calls.callWith_builtin rfl (PySem.evalArgs_none (hm pins s1 σ H1 x [] v [] Q I1 r1 .nil q1))⟩
theorem pe_bm (pa : PlainAttrs T) (slot : Slot T name id) (hty : typeOf (.builtin id) = pure (.type "method_descriptor")) (hm : MtR X id r) (ho : PE X o to) (ha : PA X (e :: es) t)
    (hbase : attributeBase o name X.env (eval o X.env) = eval o X.env := by rfl)
    (hfew : ((backTo cpos (starEach (e :: es) X.env)).all (fun x => !x.1) && (backToKw cpos (keywordEach [] X.env)).all (fun x => x.1.isSome)
      && decide ((e :: es).length + ([] : List Keyword).length + (if ([] : List Keyword).isEmpty then 0 else 1) < 30)) = true := by rfl)
    (hline : (apos.endLine == cpos.line) = true := by rfl) (hs : starEach (e :: es) X.env = (false, eval e X.env) :: starEach es X.env := by rfl) (hplain : (backTo cpos (starEach es X.env)).any (·.1) = false := by rfl) :
    PE X (.Call (.Attribute o name apos) (e :: es) [] cpos) (tBM X.K T r to t) := by
  intro pins s σ H Q I h
  refine wpAny_Call_method_late hbase hfew hline rfl (thn (ho pins s σ H _ I h) fun v s1 ⟨x, H1, I1, r1, ty, q1⟩ => ?_)
  obtain ⟨h1, h2⟩ := tyV_is I1 r1 ty
  refine ⟨T, id, pa, slot, hty, h1, h2, ?_⟩
  have hA := ha cpos pins s1 σ H1 _ I1 q1
  rw [hs] at hA ⊢
  refine Calls.callWith_builtin (by show (false || (backTo cpos (starEach es X.env)).any (·.1)) = false; rw [hplain] <;> rfl) (Calls.evalArgs_plain ?_)
  exact thn hA fun us s2 ⟨vs, H2, I2, r2, q2⟩ => hm pins s2 σ H2 x vs v us Q I2 r1 r2 q2
/- xs.append(e), list.index on a module's tuple .. are MtR facts of 06m -/
end
end L2

namespace L2
open PySem PySem.Spec PyProof.Rows

def MtM (X : Cx) (id : String) (r : V → List V → Hp → VK → Prop) : Prop :=
  ∀ (pins : List (Addr × Obj)) (s : Shared) (σ : St) (H : Hp) (x : V) (xs : List V) (v : Value) (us : List Value) (Q : VK), Inv X pins σ H s → RelV x v → Vals xs us → r x xs H Q →
    wpAny (model X.prog X.w) X.A (call (.builtin id) (v :: us)) (EP X pins σ Q) X.xe s

theorem Vals.one : ∀ {x : V} {us : List Value}, Vals [x] us → ∃ u, us = [u] ∧ RelV x u
  | _, _, .cons r .nil => ⟨_, rfl, r⟩
theorem Vals.two : ∀ {x y : V} {us : List Value}, Vals [x, y] us → ∃ u v, us = [u, v] ∧ RelV x u ∧ RelV y v
  | _, _, _, .cons r (.cons q .nil) => ⟨_, _, rfl, r, q⟩
theorem Vals.zero : ∀ {us : List Value}, Vals [] us → us = []
  | _, .nil => rfl
section
variable {X : Cx} {pins : List (Addr × Obj)} {σ : St} {H : Hp} {s : Shared} {l b : Addr} {xs ys zs : List V}

theorem Inv.lset {its its' : List Value} {n : Nat} {f : Array Value → Array Value} {t' : Nat} (I : Inv X pins σ H s) (hH : H l = some (.lst xs))
    (e : s.heap.get? l = some { cls := .type "list", data := .seq its.toArray n }) (hf : f its.toArray = its'.toArray) (hv : Vals ys its') (hz : ys.length ≤ sizeLine) :
    Inv X pins σ (upd H l (.lst ys)) { s with heap := s.heap.update l (Obj.mapSeq f), toks := t' } := by
  have q := PySem.IsL.update e f
  rw [hf] at q
  refine I.write (x := l) (e := l) (by rw [hH]; exact trivial) (.inl rfl) (fun b' u hb hu => (Heap.get?_update_other s.heap (Obj.mapSeq f) (Ne.symm hb)).trans hu) ⟨_, q⟩ ?_
  exact ⟨hz, its', _, hv, q⟩
theorem Inv.lstM (I : Inv X pins σ H s) (hH : H l = some (.lst xs)) : xs.length ≤ sizeLine ∧ ∃ (its : List Value) (n : Nat), Vals xs its ∧ xs.length = its.length ∧ s.heap.get? l = some { cls := .type "list", data := .seq its.toArray n } := by
  obtain ⟨z, its, n, r, e⟩ := I.hok l _ hH
  exact ⟨z, its, n, r, r.length, e⟩

end

section
variable {X : Cx}

def rAppend : V → List V → Hp → VK → Prop := fun x vs H Q => ∃ l xs y, x = .ref l ∧ vs = [y] ∧ H l = some (.lst xs) ∧ xs.length < sizeLine ∧ Q .non (upd H l (.lst (xs ++ [y])))
theorem mt_append : MtM X "list.append" rAppend := by
  intro pins s σ H x vs v us Q I rx rv h
  obtain ⟨l, xs, y, rfl, rfl, hH, hz, q⟩ := h
  cases rx
  obtain ⟨u, rfl, ru⟩ := rv.one
  obtain ⟨z, its, n, r, hl, e⟩ := I.lstM hH
  refine call_meets F.slot_list_append ⟨_, e, rfl⟩ F.entry_list_append (F.args_list_append_2 _ _) (PySem.list_append l its.toArray n u (by rw [List.size_toArray]; omega)) ⟨e, ?_⟩
  refine ⟨.non, _, I.lset (its' := its ++ [u]) hH e (by simp) (r.append (.cons ru .nil)) ?_, rfl, q⟩
  rw [List.length_append, List.length_singleton]
  omega

def rClear : V → List V → Hp → VK → Prop := fun x vs H Q => ∃ l xs, x = .ref l ∧ vs = [] ∧ H l = some (.lst xs) ∧ Q .non (upd H l (.lst []))
theorem mt_clear : MtM X "list.clear" rClear := by
  intro pins s σ H x vs v us Q I rx rv h
  obtain ⟨l, xs, rfl, rfl, hH, q⟩ := h
  cases rx
  have hus := rv.zero
  subst hus
  obtain ⟨z, its, n, r, hl, e⟩ := I.lstM hH
  refine call_meets F.slot_list_clear ⟨_, e, rfl⟩ F.entry_list_clear (F.args_list_clear_1 _) (AutoSeq1.list_clear_list_0 l its.toArray n (by rw [List.size_toArray]; omega)) ⟨e, ?_⟩
  exact ⟨.non, _, I.lset (its' := []) (ys := []) hH e rfl .nil (Nat.zero_le _), rfl, q⟩

end

section
variable {prog : Program} {w : World} {A : Around} {E : Value → Shared → Prop} {s : Shared}
end

section
variable {X : Cx}
end
end L2



set_option Elab.async false
set_option linter.all false
set_option maxRecDepth 100000
namespace L2
open PySem PySem.Spec PyProof.Rows

section
variable {κ : Type} [DecidableEq κ]
end


section
variable {P : Program} {w : World} {H : Hp} {h : Heap} {a : Addr}
end

section
variable {X : Cx} {pins : List (Addr × Obj)} {σ : St} {H : Hp} {s : Shared} {a : Addr} {y v : V} {u r : Value} {o : Option V} {A : Around} {E : Value → Shared → Prop}

end

section
variable {X : Cx} {pins : List (Addr × Obj)} {σ : St} {H : Hp} {s : Shared} {a : Addr} {kvs : List (Key × V)} {k : Key} {u : Value} {A : Around} {E : Value → Shared → Prop}
end


section
variable {X : Cx} {o i e value : Expr} {pos pos' tpos : Pos} {td ty tv : TE}
end


section
variable {X : Cx} {pos : Pos}
end

section
variable {X : Cx} {pins : List (Addr × Obj)} {σ : St} {H : Hp} {s : Shared} {a : Addr} {y d : V} {u r : Value} {o : Option V} {A : Around} {E : Value → Shared → Prop}
end

section
variable {X : Cx} {o e f : Expr} {apos cpos : Pos} {td ty tx : TE}
end

section
variable {X : Cx} {pins : List (Addr × Obj)} {σ : St} {H : Hp} {s : Shared} {a : Addr} {kvs : List (Key × V)} {A : Around} {E : Value → Shared → Prop}
end


section
variable {X : Cx} {pins : List (Addr × Obj)} {σ : St} {H : Hp} {s : Shared} {a : Addr} {y : V} {u : Value} {A : Around} {E : Value → Shared → Prop}
end
end L2



set_option Elab.async false
set_option linter.all false
set_option maxRecDepth 100000
namespace Att
open PySem PySem.W PySem.Calls PyProof.Rows

theorem ints_of_wellAll {P : Params} {h : Heap} : ∀ (ns : List Int) (vs : List Value), WellAll P h vs (ns.map WData.int) → IntsAre vs ns := by
  intro ns
  induction ns with
  | nil =>
    intro vs w
    rw [List.map_nil] at w
    cases w
    exact .nil
  | cons n ns ih =>
    intro vs w
    rw [List.map_cons] at w
    cases w with
    | cons a b =>
      cases a
      exact .cons _ _ (ih _ b)

theorem script_of {l : OpenLaw} {n : Nat} (hn : l.most = some n) {P : Params} {h : Heap} {args : List WData} {vals : List Value}
    (hpre : l.row.toRowW.claim.pre args = true) (hwl : WellAll P h vals args) :
    ∃ a vs ns, vals = [Value.ref a] ∧ args = [WData.list (ns.map WData.int)] ∧ h.get? a = some { cls := .type "list", data := .seq vs.toArray } ∧ IntsAre vs ns ∧ ns.length ≤ n := by
  have hsh : WShape.hasAll [] args [.list .int] = true := (pre_splitW hpre).1
  have hc : l.pre.holds [] { args := args } = true := (pre_splitW hpre).2
  obtain ⟨d, r, rfl, h1, h2⟩ := hasAllW_cons hsh
  obtain rfl := hasAllW_nil h2
  obtain ⟨xs, rfl, h3⟩ := hasW_list h1
  obtain ⟨ns, rfl⟩ := items_int h3
  have hlen : ns.length ≤ n := by
    unfold OpenLaw.pre at hc
    have h4 : (WTm.not (.lt (.lit (.int (n : Int))) (.len (.arg 0)))).holds [] { args := [.list (ns.map .int)] } = true := by
      have h4 := (holds_andW hc).1
      rw [hn] at h4
      exact h4
    have h5 := condW_of h4 (w_not (w_lt w_lit (w_len_list (w_arg rfl))))
    rw [List.length_map] at h5
    refine Nat.le_of_not_lt fun q => ?_
    have q' : (n : Int) < ((ns.length : Nat) : Int) := by omega
    first
      | (rw [decide_eq_true q'] at h5; exact absurd h5 (by decide))
      | (simp at h5; omega)
  cases hwl with
  | cons w1 w2 =>
    cases w2
    cases w1 with
    | list ho hall => exact ⟨_, _, ns, rfl, rfl, ho, ints_of_wellAll ns _ hall, hlen⟩

theorem post_true (l : OpenLaw) (args : List WData) : l.row.toRowW.claim.post args (.bool true) args = true :=
  postW_of (r := l.row.toRowW) (X := (true == true))
    (show WShape.has [] (.bool true) .bool = true by first | rfl | decide | simp [WShape.has, WShape.arms, WShape.armsAll])
    (show (WTm.eq .res (.lit (.bool true))).value [] { args := args, res := some (.bool true), after := args } = some (.bool (true == true)) from w_eq_bool (w_res rfl) w_lit) rfl

section
variable {prog : Program} {w : World} {A : Around} {E : Value → Shared → Prop} {s : Shared} {K : Frag}

end
end Att

namespace L2
open PySem PySem.Spec PyProof.Rows

theorem vals_ints : ∀ {vs : List Value} {ns : List Int}, IntsAre vs ns → Vals (ns.map V.int) vs
  | _, _, .nil => .nil
  | _, _, .cons n t h => .cons ⟨t, rfl⟩ (vals_ints h)

def Only (H : Hp) : Prop := ∀ b, H b = none ∨ ∃ o xs, H b = some (.frz o (.lst xs))

theorem law_call {P : Program} {w : World} {K : PySem.W.Frag} {mg mb : Str → Option Value} {CX : CXT} {k : Nat} {fa a : Addr} {fd : FuncData} {x : Str} {sp : Sp} {s₁ : Shared} {vs : List Value} {ns : List Int}
    (KX : K.In s₁.heap) (hns : s₁.heap.Ns mainGlobals mg) (hb : s₁.heap.Ns builtinsNs mb) (hbb : ∀ x : Str, x ≠ "__name__" → mb x = bootBuiltins x) (hlim : s₁.heap.NoLimit) (hg : s₁.gens = #[])
    (ha : s₁.heap.get? a = some { cls := .type "list", data := .seq vs.toArray }) (hi : IntsAre vs ns) (hl : ns.length ≤ sizeLine) (hr : Room k callerA)
    (F : ∀ base : Heap, K.In base → base.Ns mainGlobals mg → FnOk P w K mg base CX k fa fd [x] sp) (hbind : ∀ (s : Shared) (u : Value), BindsTo s fd ⟨[u], []⟩ [(x, u)])
    (hsp : ∀ H : Hp, Only H → SqL K H a (ns.map V.int) → sp [.ref a] H (fun v _ => v = .bl true) fun _ _ _ => False)
    (hCX : ∀ H e s', CX [] H s₁ (fun _ _ _ => False) e s' → False) :
    codeAny (model P w) callerA (.call (.ref fa) ⟨[.ref a], []⟩) (fun r s' => r = .ok (.ret (.bool true)) ∧ OldK s₁.heap s'.heap ∧ s'.os = s₁.os ∧ AllBare s'.gens) s₁ := by
  have rv := vals_ints hi
  have lenV := hi.length
  -- from an abstract heap in which nothing but the script may be tracked
  have core : ∀ H : Hp, Only H → SqL K H a (ns.map V.int) → HOk P w H s₁.heap → (∀ b, H b ≠ none → b = a) → (H a ≠ none → K.lookup a = none) →
      codeAny (model P w) callerA (.call (.ref fa) ⟨[.ref a], []⟩) (fun r s' => r = .ok (.ret (.bool true)) ∧ OldK s₁.heap s'.heap ∧ s'.os = s₁.os ∧ AllBare s'.gens) s₁ := by
    intro H hO hS hok hA hK
    have base_of : ∀ {b : Addr} {o : Obj}, s₁.heap.get? b = some o → H b = none → (hidT s₁.heap H).get? b = some o := fun e n => hidT_get e n
    have noA : ∀ {b : Addr} {o : Obj} {es : Array DictEntry} {ep : Nat}, s₁.heap.get? b = some o → o.data = .dict es ep → H b = none := fun {b o es ep} e d => by
      cases q : H b with
      | none => rfl
      | some u =>
        have e' : b = a := hA b (by rw [q]; simp)
        subst e'
        rw [ha] at e; cases e
        have d' : Data.seq vs.toArray _ = Data.dict es ep := d
        cases d'
    have nsK : ∀ {b : Addr} {m : Str → Option Value}, s₁.heap.Ns b m → (hidT s₁.heap H).Ns b m := fun {b m} ⟨o, es, ep, e, d, r⟩ => ⟨o, es, ep, base_of e (noA e d), d, r⟩
    have hKb : K.In (hidT s₁.heap H) := fun b o e => base_of (KX b o e) (by
      cases q : H b with
      | none => rfl
      | some u =>
        have e' : b = a := hA b (by rw [q]; simp)
        subst e'
        rw [hK (by rw [q]; simp)] at e; cases e)
    have hM : Mod K mg (hidT s₁.heap H) := ⟨hKb, nsK hns, ⟨mb, nsK hb, hbb⟩, let ⟨mc, h1, h2⟩ := hlim; ⟨mc, nsK h1, h2⟩⟩
    have e0 : Env0 P w K mg (hidT s₁.heap H) callerA [] s₁ H := ⟨rfl, hM, fun b o e => of_hidT e, Nat.le_of_eq (hidT_size _ _), trivial, fun b hb => absurd (show b ∈ ([] : List Addr) from hb) (by simp), hok, .of_eq hg⟩
    refine codeAny_mono ((F _ hKb (nsK hns)).run callerA [] s₁ H ⟨[.ref a], []⟩ [.ref a] [.ref a] _ _ hr e0 (hbind s₁ (.ref a)) (.cons rfl .nil) (hsp H hO hS)) fun r s' h => ?_
    cases r with
    | error e => exact (hCX H e s' h).elim
    | ok fl =>
      cases fl with
      | next => exact False.elim h
      | brk => exact False.elim h
      | cont => exact False.elim h
      | ret u =>
        obtain ⟨v, H', os, bare, un, hok', r', q⟩ := h
        have q' : v = .bl true := q
        subst q'
        obtain rfl : u = Value.bool true := r'
        refine ⟨rfl, OldK.of_keep fun b o e => ?_, os, bare⟩
        cases q : H b with
        | none => exact un.keep b o e q (by intro z; exact absurd (show b ∈ ([] : List Addr) from z) (by simp)) (by simp)
        | some u =>
          rcases hO b with z | ⟨ob, xs, z⟩
          · rw [q] at z; cases z
          · have z2 := un.frzs b ob _ z
            obtain ⟨e1, _⟩ := hok b _ z
            obtain ⟨e2, _⟩ := hok' b _ z2
            rw [e] at e1; cases e1
            exact e2
  cases hk : K.lookup a with
  | some o =>
    -- the script is one of the module's own objects
    have e := KX a o hk
    rw [ha] at e
    cases e
    refine core (fun _ => none) (fun _ => .inl rfl) (.inr ⟨_, vs.toArray, _, hk, rfl, rfl, rfl, by rw [List.size_toArray, lenV]; exact hl, by simpa using rv⟩) (fun b u z => by have z' : (none : Option HO) = some u := z; cases z') (fun b z => absurd rfl z) fun z => absurd rfl z
  | none =>
    refine core (fun b => if b = a then some (.frz { cls := .type "list", data := .seq vs.toArray } (.lst (ns.map V.int))) else none) (fun b => ?_) (.inl (.inr ⟨{ cls := .type "list", data := .seq vs.toArray }, if_pos rfl⟩)) (fun b u z => ?_) (fun b z => ?_) fun _ => hk
    · by_cases hb : b = a
      · exact .inr ⟨_, _, if_pos hb⟩
      · exact .inl (if_neg hb)
    · by_cases hb : b = a
      · have z' := (if_pos hb).symm.trans z
        cases z'
        subst hb
        exact ⟨ha, by rw [List.length_map]; exact hl, vs, _, rv, ha⟩
      · have z' := (if_neg hb).symm.trans z
        cases z'
    · by_cases hb : b = a
      · exact hb
      · exact absurd (if_neg hb) z
end L2

namespace L2
open PySem PySem.Spec PyProof.Rows

end L2

/- THE LAST THEOREM (shape; LID, My.* are yours):
   My.Adr: a structure of the addresses that your layer names (classes, functions); My.Txt K t: a structure (Prop) of the equations over K;
   My.txt_mk : {K} {implicit addresses ..} (e1 : nsIn K mainGlobals "law" = some (some (.ref f))) (e2 : K.lookup f = some ⟨oc, od, .func (fnOf "law" "law" params body scope dV kV doc pm an cdv ct), sl⟩) (e3 : codeIn K cdv "law" = true) .. : ∃ t, My.Txt K t

set_option maxRecDepth 100000 in
set_option maxHeartbeats 0 in
theorem PySem.Challenge.cw_LID_holds : PySem.Challenge.rw_LID.Holds := by
  w_on; o_law; k_head; (case hw => w_witness2)
  k_fill
  refine L2.walk_of (l := PySem.Challenge.rw_LID) (n := 63) (k := 40) (x := "script") (CX := fun w => ..) (sp := fun _ => My.sp_law) rfl (by decide) rfl ⟨rfl, by decide, by decide⟩ (fun w h Y => PySem.W.kIn_of Y) ?F ?S ?C
  case F =>
    intro w mg fa h KX G hmg
    have T : ∃ t, My.Txt (L2.KOf KX) t := by
      dsimp only [L2.KOf]                          -- K must stand as «<heap const> w.params» for k_is
      refine' My.txt_mk ?e1 ?e2 ?e3 ..
      (case e1 => PySem.W.k_is)                    -- in the order: a name -> its address -> its object -> its parts
      (case e2 => PySem.W.k_is)
      ..
    obtain ⟨t, T⟩ := T
    have e0 := hmg.symm.trans (PySem.W.mg_of KX G T.law)
    cases e0                                       -- fa is the law's own address
    exact ⟨_, fun s u => .of_eq rfl, fun base kb nb => My.law_fn T kb nb⟩     -- if «.of_eq rfl» comes too early: refine' ⟨_, ?b, fun base kb nb => My.law_fn T kb nb⟩; exact fun s u => .of_eq rfl
  case S => exact fun w H a ns hl hO hS => ..
  case C => exact ..
(the tactic k_is has no namespace: write k_is) -/

namespace L2
open PySem PySem.Spec PyProof.Rows

def defArgs (s : Stmt) : Arguments := match s with
  | .FunctionDef _ a _ _ _ _ _ _ _ _ => a
  | _ => { posonlyargs := [], args := [], vararg := none, kwonlyargs := [], kw_defaults := [], kwarg := none, defaults := [] }
def defBody (s : Stmt) : List Stmt := match s with
  | .FunctionDef _ _ b _ _ _ _ _ _ _ => b
  | _ => []
def defScope (s : Stmt) : Scope := match s with
  | .FunctionDef _ _ _ _ _ _ sc _ _ _ => sc
  | _ => { kind := .function, names := [], isGenerator := false, isCoroutine := false }

abbrev CX0 : CXT := fun _ _ _ _ _ _ => False
abbrev E0 : XK := fun _ _ _ => False
theorem pass0 {X : Cx} : Passes CX0 X E0 := fun _ _ _ _ _ _ _ h => h.elim

structure Fun (K : PySem.W.Frag) (x qual : Str) (st : Stmt) (f : Addr) (fd : FuncData) : Prop where
  ex : ∃ (oc : Value) (od : Option Addr) (kV doc pm : Value) (an : Option Addr) (cdv ct : Value) (osl : Array (Option Value)),
    fd = PySem.W.fnOf x qual (defArgs st) (defBody st) (defScope st) .none kV doc pm an cdv ct ∧ K.lookup f = some ⟨oc, od, .func fd, osl⟩ ∧ PySem.W.codeIn K cdv qual = true
  kp : PySem.W.keepIn K (.ref f) = true
section
variable {P : Program} {w : World} {K : PySem.W.Frag} {mg : Str → Option Value} {base : Heap}
theorem Fun.ok {x qual : Str} {st : Stmt} {f : Addr} {fd : FuncData} {N ps : List Str} {k : Nat} {sp : Sp} (F : Fun K x qual st f fd) (S : FnScope N ps (defScope st)) (len : ∀ vs H Q E, sp vs H Q E → vs.length = ps.length)
    (hbody : ∀ (cdv : Value) (A : Around) (outer : List Env) (s : Shared) (H : Hp) (vs : List V) (Q : VK) (E : XK), Room k (A.deeper (envOfC qual (defScope st) s.heap.objs.size f cdv)) → sp vs H Q E →
      ∃ t, PSs (cxOf CX0 P w K mg base N qual (defScope st) f cdv A outer s H E).nox (defBody st) t ∧ t { nx := fun _ H' => Q .non H', rt := Q } (start N vs) H) : FnOk P w K mg base CX0 (k + 1) f fd ps sp := by
  obtain ⟨oc, od, kV, doc, pm, an, cdv, ct, osl, rfl, lk, hcd⟩ := F.ex
  refine fn_of lk hcd S len fun A outer s H vs Q E hr hsp => ?_
  obtain ⟨t, h, q⟩ := hbody cdv A outer s H vs Q E hr hsp
  exact ⟨t, h.nox, q⟩
theorem Fun.binds {x qual : Str} {st : Stmt} {f : Addr} {fd : FuncData} {ps : List Str} (F : Fun K x qual st f fd)
    (h : ∀ (kV doc pm : Value) (an : Option Addr) (cdv ct : Value) (us : List Value), us.length = ps.length → bindArgs (PySem.W.fnOf x qual (defArgs st) (defBody st) (defScope st) .none kV doc pm an cdv ct) ⟨us, []⟩ = pure (ps.zip us)) : Binds K fd ps [] := by
  obtain ⟨oc, od, kV, doc, pm, an, cdv, ct, osl, rfl, lk, hcd⟩ := F.ex
  exact .all (h kV doc pm an cdv ct)
theorem fun_mk {x qual : Str} {st : Stmt} {f : Addr} {oc : Value} {od an : Option Addr} {osl : Array (Option Value)} {kV doc pm cdv ct : Value} (l : K.lookup f = some ⟨oc, od, .func (PySem.W.fnOf x qual (defArgs st) (defBody st) (defScope st) .none kV doc pm an cdv ct), osl⟩)
    (c : PySem.W.codeIn K cdv qual = true) (k : PySem.W.keepIn K (.ref f) = true) : Fun K x qual st f (PySem.W.fnOf x qual (defArgs st) (defBody st) (defScope st) .none kV doc pm an cdv ct) := ⟨⟨oc, od, kV, doc, pm, an, cdv, ct, osl, rfl, l, c⟩, k⟩
end
theorem hu_of {A : Around} {k : Nat} (hr : Room k A) : A.units + 1 < cLine := Nat.lt_of_le_of_lt (Nat.add_le_add_left (by decide : 1 ≤ 64) _) hr.units
section
variable {X : Cx}
theorem pv (i : Nat) {x : Str} {pos : Pos} (hN : X.N[i]? = some x := by rfl) (hv : Vis X.env.scope x := by first | exact Or.inl rfl | exact Or.inr (Or.inl rfl) | exact Or.inr (Or.inr rfl)) (hd : (x == ("__debug__" : Str)) = false := by decide)
    (hcd : (x == ("__classdict__" : Str)) = false := by decide) : PE X (.Name x pos) (tVar i) := pe_var hN hv hd hcd
end

theorem iteT {A B : Prop} (h : A) : if true = true then A else B := by
  rw [if_pos rfl]
  exact h
theorem ite2 {c A B : Prop} [Decidable c] (h1 : c → A) (h2 : ¬ c → B) : if c then A else B := by
  by_cases h : c
  · rw [if_pos h]
    exact h1 h
  · rw [if_neg h]
    exact h2 h
def Same (H H' : Hp) : Prop := ∀ b o, H b = some o → H' b = some o
theorem Same.trans {H H1 H2 : Hp} (a : Same H H1) (b : Same H1 H2) : Same H H2 := fun c o h => b c o (a c o h)
theorem Same.free {H H' : Hp} (e : Same H H') {l : Addr} (h : H' l = Option.none) : H l = Option.none := by
  cases q : H l with
  | none => rfl
  | some o =>
    rw [e l o q] at h
    cases h
theorem Same.seq {K : PySem.W.Frag} {H H' : Hp} {a : Addr} {xs : List V} (e : Same H H') (h : SqL K H a xs) : SqL K H' a xs := by
  rcases h with (h | ⟨o, h⟩) | h
  · exact .inl (.inl (e _ _ h))
  · exact .inl (.inr ⟨o, e _ _ h⟩)
  · exact .inr h

section
variable {κ : Type} [DecidableEq κ]
end
end L2



set_option Elab.async false
set_option linter.all false
set_option maxRecDepth 100000
set_option maxHeartbeats 4000000
namespace L2
open PySem PySem.Spec PyProof.Rows

structure Fly (P : Program) (w : World) (outer : List Env) (H : Hp) (s : Shared) (H' : Hp) (B : Heap) (s' : Shared) : Prop where
  os : s'.os = s.os
  bare : AllBare s'.gens
  un : Un (frs outer) [] H H' s.heap s'.heap
  kb : ∀ b o, s.heap.get? b = some o → H b = none → b ∉ frs outer → B.get? b = some o
  kt : ∀ b o, s.heap.get? b = some o → b ∉ frs outer → ∃ o', B.get? b = some o'
  hok : HOk P w H' B
def CXF (P : Program) (w : World) : CXT := fun outer H s E e s' =>
  ∃ (ea : Addr) (cls a0 : Value) (H' : Hp) (B : Heap), e = .ref ea ∧ Fly P w outer H s H' B s' ∧ Heap.FlyingW B outer ea cls a0 s'.heap ∧ E cls none H'

section
variable {P : Program} {w : World} {outer : List Env} {H H' : Hp} {s s' : Shared} {B h2 base : Heap}
theorem Fly.land {ea : Addr} {cls a0 : Value} {l : List Env} (F : Fly P w outer H s H' B s') (fr : s.heap.FunFrames base outer) (frf : ∀ b ∈ frs outer, H b = none) (fl : Heap.FlyingW B l ea cls a0 h2) (up : s'.heap.UpToSlots h2) : Un (frs outer) [] H H' s.heap h2 := by
  have sl : ∀ b o, s.heap.get? b = some o → b ∈ frs outer → ∃ sl, h2.get? b = some { o with slots := sl } := fun b o e hb => by
    obtain ⟨_, o', ho', hd⟩ := fr.mem hb
    rw [e] at ho'
    cases ho'
    obtain ⟨sl, e1⟩ := F.un.slot b o e (frf b hb) hb (by simp)
    obtain ⟨sl', e2⟩ := up b _ e1 hd
    exact ⟨sl', e2⟩
  refine ⟨fun b o e n hb _ => fl.1 b o (F.kb b o e n hb), fun b o e n hb _ => sl b o e hb, F.un.free, fun b o e _ => ?_, F.un.tups, F.un.frzs, F.un.tbls⟩
  by_cases hb : b ∈ frs outer
  · obtain ⟨q, e1⟩ := sl b o e hb
    exact ⟨_, e1⟩
  · obtain ⟨o', e1⟩ := F.kt b o e hb
    exact ⟨o', fl.1 b o' e1⟩
end

def Raises (X : Cx) (E : St → XK) : Prop := ∀ (pins : List (Addr × Obj)) (σ : St) (H : Hp) (s : Shared) (ea : Addr) (cls : Value) (args : List Value) (h' : Heap),
  Inv X pins σ H s → Heap.MadeExcOf s.heap h' ea cls args → E σ cls none H → X.xe (.ref ea) { s with heap := h' }
def PassesS (CX : CXT) (X : Cx) (E : St → XK) : Prop := ∀ (pins : List (Addr × Obj)) (σ : St) (H : Hp) (s : Shared) (e : Value) (s' : Shared), Inv X pins σ H s → CX X.stack H s (E σ) e s' → X.xe e s'

section
variable {X : Cx} {pins : List (Addr × Obj)} {σ : St} {H : Hp} {s : Shared}
theorem Inv.notStk (I : Inv X pins σ H s) {b : Addr} {o : Obj} (e : X.s₀.heap.get? b = some o) (hb : b ∉ X.fs) : b ∉ frs X.stack := fun z => by
  rcases List.mem_cons.mp (I.stkSub b z) with q | q
  · exact absurd (Nat.lt_of_lt_of_le (Heap.lt_size e) I.ok.above) (by rw [q]; exact Nat.lt_irrefl _)
  · exact hb q
theorem Inv.fly (I : Inv X pins σ H s) {h' : Heap} {ea : Addr} {cls : Value} {args : List Value} (M : Heap.MadeExcOf s.heap h' ea cls args) :
    Fly X.prog X.w X.stack H s H (PySem.W.hideAll s.heap (frs X.stack)) { s with heap := h' } := by
  refine ⟨rfl, I.bare, Un.kept M.keeps, fun b o e _ hb => PySem.W.hideAll_get _ e hb, fun b o e hb => ⟨o, PySem.W.hideAll_get _ e hb⟩, fun a o e => ?_⟩
  refine (I.hok a o e).stay (fun b u hb q => PySem.W.hideAll_get _ q fun z => ?_) (fun _ q => q) fun _ _ q => q
  have n := I.stkFree b z
  rcases hb with rfl | hb
  · rw [n] at e; cases e
  · rw [n] at hb; cases hb
end

section
variable {P : Program} {w : World} {K : PySem.W.Frag} {mg : Str → Option Value} {base : Heap} {N : List Str} {qual : Str} {scope : Scope} {f : Addr} {cd : Value} {A : Around} {outer : List Env} {s : Shared} {H : Hp} {E : XK}
theorem fly_out {pins : List (Addr × Obj)} {σ : St} {H1 H' : Hp} {s1 s' : Shared} {B h2 : Heap} {ea : Addr} {cls a0 : Value} (I : Inv (cxOf (CXF P w) P w K mg base N qual scope f cd A outer s H E) pins σ H1 s1)
    (F : Fly P w (envOfC qual scope s.heap.objs.size f cd :: outer) H1 s1 H' B s') (fl : Heap.FlyingW B outer ea cls a0 h2) (up : s'.heap.UpToSlots h2) : Fly P w outer H s H' B { s' with heap := h2 } := by
  have u := F.land I.stack I.stkFree fl up
  have J := I.call (h' := h2) (g' := s'.gens) (t' := s'.toks) (d' := s'.drawn) (ch := []) u (F.hok.kept fl.1) F.bare (fun b z => absurd z (by simp))
  refine ⟨F.os.trans I.os, F.bare, J.base, fun b o e n hb => ?_, fun b o e hb => ?_, F.hok⟩
  · exact F.kb b o (I.base.keep b o e n hb (by simp [cxOf])) (I.base.free b o e n (by simp [cxOf])) (I.notStk e hb)
  · obtain ⟨o', e1⟩ := I.base.there b o e (by simp [cxOf])
    exact F.kt b o' e1 (I.notStk e hb)
theorem raises_fn : Raises (cxOf (CXF P w) P w K mg base N qual scope f cd A outer s H E) (fun _ => E) := by
  intro pins σ H1 s1 ea cls args h' I M hE
  have F := I.fly M
  show wpAny (model P w) _ (leaving (envOfC qual scope s.heap.objs.size f cd) (.ref ea)) _ _ _
  refine wpAny_leaves_madeW (base := PySem.W.hideAll s1.heap (frs (envOfC qual scope s.heap.objs.size f cd :: outer))) (h := s1.heap) I.ok.frames rfl (fun b o q => PySem.W.of_hideAll _ q)
    (PySem.W.funFrames_hide I.stack fun env he b hb => List.mem_filterMap.mpr ⟨env, he, hb⟩) M fun h2 t fl _ _ up => ?_
  exact ⟨ea, cls, .ref t, H1, _, rfl, fly_out I F fl up, fl, hE⟩
theorem passes_fn : PassesS (CXF P w) (cxOf (CXF P w) P w K mg base N qual scope f cd A outer s H E) (fun _ => E) := by
  intro pins σ H1 s1 e s' I h
  obtain ⟨ea, cls, a0, H', B, rfl, F, fl, hE⟩ := h
  show wpAny (model P w) _ (leaving (envOfC qual scope s.heap.objs.size f cd) (.ref ea)) _ _ s'
  refine wpAny_leaves_onW I.ok.frames rfl fl fun h2 fl' up => ?_
  exact ⟨ea, cls, a0, H', B, rfl, fly_out I F fl' up, fl', hE⟩
end

theorem Fun.okX {P : Program} {w : World} {K : PySem.W.Frag} {mg : Str → Option Value} {base : Heap} {x qual : Str} {st : Stmt} {f : Addr} {fd : FuncData} {N ps : List Str} {k : Nat} {sp : Sp} (F : Fun K x qual st f fd) (S : FnScope N ps (defScope st)) (len : ∀ vs H Q E, sp vs H Q E → vs.length = ps.length)
    (hbody : ∀ (cdv : Value) (A : Around) (outer : List Env) (s : Shared) (H : Hp) (vs : List V) (Q : VK) (E : XK), Room k (A.deeper (envOfC qual (defScope st) s.heap.objs.size f cdv)) → sp vs H Q E →
      ∃ t, PSs (cxOf (CXF P w) P w K mg base N qual (defScope st) f cdv A outer s H E) (defBody st) t ∧ t { nx := fun _ H' => Q .non H', rt := Q } (start N vs) H) : FnOk P w K mg base (CXF P w) (k + 1) f fd ps sp := by
  obtain ⟨oc, od, kV, doc, pm, an, cdv, ct, osl, rfl, lk, hcd⟩ := F.ex
  exact fn_of lk hcd S len fun A outer s H vs Q E hr hsp => hbody cdv A outer s H vs Q E hr hsp
theorem FnOk.cxf {P : Program} {w : World} {K : PySem.W.Frag} {mg : Str → Option Value} {base : Heap} {k : Nat} {f : Addr} {fd : FuncData} {ps : List Str} {sp : Sp} (F : FnOk P w K mg base CX0 k f fd ps sp) (CX : CXT) : FnOk P w K mg base CX k f fd ps sp :=
  ⟨F.len, fun A outer s H args us vs Q E hr he hb hv hs => codeAny_mono (F.run A outer s H args us vs Q E hr he hb hv hs) fun r s' q => by
    cases r with
    | error e => exact False.elim q
    | ok fl => cases fl <;> exact q⟩

def tCallS (sp : Sp) (dvs : List V) (E : St → XK) (t : TA) : TE := fun σ H Q => t σ H fun vs H1 => sp (vs ++ dvs) H1 Q (E σ)
section
variable {X : Cx} {CX : CXT} {k : Nat} {f C : Addr} {fd : FuncData} {ps : List Str} {sp : Sp} {dvs : List V} {ds : List Value} {E : St → XK} {x m : Str} {p pos apos : Pos} {e o : Expr} {es : List Expr} {ta : TE} {t : TA}
theorem run_fnS {pins : List (Addr × Obj)} {σ : St} {H : Hp} {s : Shared} {Q : VK} {us : List Value} {vs : List V} (F : FnOk X.prog X.w X.K X.mg X.base CX k f fd ps sp) (hr : Room k X.A) (hb : Binds X.K fd ps ds) (hd : Vals dvs ds) (hx : PassesS CX X E)
    (I : Inv X pins σ H s) (r : Vals vs us) (h : sp (vs ++ dvs) H Q (E σ)) : wpAny (model X.prog X.w) X.A (call (.ref f) us) (EP X pins σ Q) X.xe s := by
  have r2 : Vals (vs ++ dvs) (us ++ ds) := r.append hd
  have hl : (us ++ ds).length = ps.length := by rw [← r2.length]; exact F.len _ _ _ _ h
  refine wpAny_call (codeAny_mono (F.run X.A X.stack s H ⟨us, []⟩ (us ++ ds) (vs ++ dvs) Q (E σ) hr I.env0 (hb s us I.kIn hl) r2 h) fun r s' hq => ?_)
  cases r with
  | error e => exact hx pins σ H s e s' I hq
  | ok fl =>
    cases fl with
    | ret u => exact I.after hq
    | next => exact False.elim hq
    | brk => exact False.elim hq
    | cont => exact False.elim hq
theorem pe_callS (F : FnOk X.prog X.w X.K X.mg X.base CX k f fd ps sp) (hr : Room k X.A) (hg : Gl X x) (hm : X.mg x = some (.ref f)) (hk : PySem.W.keepIn X.K (.ref f) = true) (hb : Binds X.K fd ps ds) (hd : Vals dvs ds) (hx : PassesS CX X E)
    (ha : PA X (e :: es) t) (hdb : (x == ("__debug__" : Str)) = false := by decide) (he : starEach (e :: es) X.env = (false, eval e X.env) :: starEach es X.env := by rfl) (hpl : (backTo pos (starEach es X.env)).any (·.1) = false := by rfl) :
    PE X (.Call (.Name x p) (e :: es) [] pos) (tCallS sp dvs E t) := by
  intro pins s σ H Q I h
  refine wpAny_Call_Name_kw (ld_glob I hg hm ?_ hdb)
  refine PySem.W.callWith_K (h₀ := X.base) I.ok.mod.kin hk (thn (ha pos pins s σ H _ I h) fun us s1 ⟨vs, H1, I1, r, q⟩ => ⟨I1.kIn, ?_⟩) he hpl
  exact run_fnS F hr hb hd hx I1 r q
end

abbrev veB : List Value := [.type "ValueError", .type "Exception", .type "BaseException", .type "object"]
theorem excObj_of {K : PySem.W.Frag} {h : Heap} {C : Addr} {bmB : List Value} {newId : String} (X : K.In h) (q : PySem.W.excIn K C bmB newId = true) :
    ∃ bm N nm q bs hdct sn sub ab col dd k0 k1 k2 k3 k5 mN, h.get? C = some (excClassObj nm q C N bs bm hdct sn sub ab col dd k0 k1 k2 k3 k5 newId) ∧ h.Ns N mN ∧ mN "__init__" = none ∧ OwnTail h bmB bm := by
  unfold PySem.W.excIn at q
  split at q
  · rename_i dd cd sl ho
    split at q
    · rename_i C' bm k0 k1 k2 k3 n k5 hm hs
      simp only [Bool.and_eq_true, beq_iff_eq, Bool.not_eq_true'] at q
      obtain ⟨⟨⟨⟨⟨rfl, rfl⟩, hdel⟩, ht⟩, hok⟩, hni⟩ := q
      obtain ⟨nm, bs, mro, ns, qn, hd, sn, sub, ab, col, del⟩ := cd
      dsimp only at hm hdel hok hni
      subst hm hdel
      have hsl : sl = #[k0, k1, k2, k3, some (.builtin n), k5] := by
        obtain ⟨l⟩ := sl
        simp only at hs
        rw [hs]
      subst hsl
      exact ⟨bm, ns, nm, qn, bs, hd, sn, sub, ab, col, dd, k0, k1, k2, k3, k5, _, X _ _ ho, .of_isNs (PySem.W.isNs_of_in X hok), PySem.W.nsMap_none_of_in X hok hni, PySem.W.tail_of_in X ht⟩
    · cases q
  · cases q
def tRaise (E : St → XK) (C : Addr) (t : TA) : TS := fun _ σ H => t σ H fun vs H1 => vs.length ≤ sizeLine ∧ E σ (.ref C) none H1
theorem ps_raise {X : Cx} {E : St → XK} {C : Addr} {x : Str} {np cpos pos : Pos} {e : Expr} {es : List Expr} {t : TA} (hc : X.calm = true) (hR : Raises X E) (q : PySem.W.excIn X.K C veB "ValueError.__new__" = true) (hg : Gl X x) (hm : X.mg x = some (.ref C)) (ha : PA X (e :: es) t)
    (hdb : (x == ("__debug__" : Str)) = false := by decide) (he : starEach (e :: es) X.env = (false, eval e X.env) :: starEach es X.env := by rfl) (hpl : (backTo cpos (starEach es X.env)).any (·.1) = false := by rfl) :
    PS X (.Raise (some (.Call (.Name x np) (e :: es) [] cpos)) none pos) (tRaise E C t) := by
  intro pins s σ H D I h
  obtain ⟨tl, N, nm, q, bs, hdct, sn, sub, ab, col, dd, k0, k1, k2, k3, k5, mN, hC, hN, hni, T⟩ := excObj_of I.ok.mod.kin q
  refine wpAny_Raise_call_subT (C := C) (nm := nm) (q := q) (N := N) (bs := bs) (bm := tl) (hdct := hdct) (sn := sn) (sub := sub) (ab := ab) (col := col) (dd := dd) (k0 := k0) (k1 := k1) (k2 := k2) (k3 := k3) (k5 := k5)
    PySem.F.excBase_ValueError (mN := mN) (T.hasType PySem.F.excBase_ValueError.hasBase) (I.ok.hd hc) (by rw [he]; show (false || (backTo cpos (starEach es X.env)).any (·.1)) = false; rw [hpl]; rfl) hni (ld_glob I hg hm ⟨rfl, ?_⟩ hdb)
  have h1 := ha cpos pins s σ H _ I h
  rw [he] at h1 ⊢
  refine Calls.evalArgs_plain (thn h1 fun us s2 ⟨vs, H2, I2, r, z, hE⟩ => ⟨rfl, by rw [← r.length]; exact z, I2.bk _ _ hC, hN.keeps I2.bk, T.keeps I2.bk, fun h' ea M => ?_⟩)
  exact hR pins σ H2 s2 ea (.ref C) us h' I2 M hE
end L2


set_option Elab.async false
set_option linter.all false
set_option maxRecDepth 100000
set_option maxHeartbeats 4000000
namespace L2
open PySem PySem.Spec PyProof.Rows
section
variable {X : Cx} {pins : List (Addr × Obj)} {σ : St} {H : Hp} {s : Shared}
theorem Inv.adopt {a : Addr} {o : HO} (I : Inv X pins σ H s) (hn : H a = none) (h0 : X.s₀.heap.get? a = none) (hL : a ≠ X.env.locals) (hC : ∀ x c, X.env.cells.lookup x = some c → c ≠ a) (hp : ∀ p ∈ X.pn ++ pins, p.1 ≠ a) (ok : ObjOk X.prog X.w (upd H a o) s.heap a o) : Inv X pins σ (upd H a o) s := by
  refine ⟨I.ok, I.os, I.bare, ⟨I.base.keep, I.base.slot, fun b u e n hx => ?_, I.base.there, fun b xs q => ?_, fun b u xs q => ?_, fun b ps q => ?_⟩, I.loc, I.cell, ?_, fun x c e => ?_, fun p hp' => ?_, fun b u e => ?_, I.len⟩
  · rw [upd_ne (fun z => by rw [z, h0] at e; cases e)]; exact I.base.free b u e n hx
  · have z := I.base.tups b xs q
    rw [upd_ne (ne_of_none z hn)]; exact z
  · have z := I.base.frzs b u xs q
    rw [upd_ne (ne_of_none z hn)]; exact z
  · obtain ⟨more, z⟩ := I.base.tbls b ps q
    exact ⟨more, by rw [upd_ne (ne_of_none z hn)]; exact z⟩
  · rw [upd_ne (Ne.symm hL)]; exact I.free
  · rw [upd_ne (hC x c e)]; exact I.freeC x c e
  · obtain ⟨e, n, ne, nf, d⟩ := I.pin p hp'
    exact ⟨e, by rw [upd_ne (hp p hp')]; exact n, ne, nf, d⟩
  · by_cases hb : b = a
    · subst hb; rw [upd_same] at e; cases e; exact ok
    · rw [upd_ne hb] at e
      exact (I.hok b u e).stay (fun c v _ q => q) (fun c q => by rw [upd_ne (ne_of_none q hn)]; exact q) fun c xs q => by rw [upd_ne (ne_of_none q hn)]; exact q
end

section
variable {X : Cx} {pins pins' pn : List (Addr × Obj)} {σ : St} {H : Hp} {s : Shared} {E : Value → Shared → Prop} {ea : Addr}
end

def IsExc (ea C : Addr) : Heap → Prop := fun h => ∃ o vs, h.get? ea = some o ∧ o.cls = .ref C ∧ o.data = .fields vs
end L2


set_option Elab.async false
set_option linter.all false
set_option maxRecDepth 100000
set_option maxHeartbeats 4000000
namespace L2
open PySem PySem.Spec PyProof.Rows
section
variable {X : Cx}
end

structure ExcLook (K : PySem.W.Frag) (C : Addr) : Prop where
  ga : PySem.W.findIn K (.ref C) "__getattribute__" = some (some (.builtin "BaseException.__getattribute__"))
  gt : PySem.W.findIn K (.ref C) "__getattr__" = some none
  cl : PySem.W.findIn K (.ref C) "__class__" = some (some (.builtin "object.__class__"))
  sp : PySem.W.specialIn K (.builtin "object.__class__") "__get__" = some (some (.builtin "getset_descriptor.__get__"))
  tk : PySem.W.takesIn K (.builtin "object.__class__") = some true
  ob : PySem.W.mroIn K C (.type "object") = some true
  be : PySem.W.mroIn K C (.type "BaseException") = some true
section
open PySem.W PySem.Calls Builtin Builtin.ObjectAttr Builtin.Getset_descriptor
variable {prog : Program} {w : World} {A : Around} {E : Value → Shared → Prop} {s : Shared} {K : Frag} {x C : Addr}
theorem looks_find_data {M : Model} {h : Heap} {self g a : Value} {name : Str} (X : K.In h) (ha : findIn K (.ref C) name = some (some a)) (hg : specialIn K a "__get__" = some (some g)) (ht : takesIn K a = some true) :
    Looks M h (Builtin.ObjectAttr.find self (.ref C) name) (Found.bind g a) := by
  have L1 := looks_findIn (M := M) X ha
  have L2 : Looks M h (getOf (some a)) (some g) := looks_specialIn X hg
  have L3 := looks_takesIn (M := M) X ht
  exact L1.andThen (L2.andThen ((show Looks M h (dataDescriptor? (some a) (some g)) (some (g, a)) from L3.andThen .now).andThen (Looks.tag .now)))
theorem class_get_exc {tp : Value} {R : Result → Shared → Prop} (X : K.In s.heap) (I : IsExc x C s.heap) (hm : mroIn K C (.type "object") = some true)
    (h : R (.ok (.ret (.ref C))) s) : codeAny (model prog w) A (.call (.builtin "getset_descriptor.__get__") ⟨[.builtin "object.__class__", .ref x, tp], []⟩) R s := by
  obtain ⟨hh, g, dr, t, os⟩ := s
  obtain ⟨o, vs, hx, hc, hd⟩ := I
  have L0 : Looks (model prog w) hh (typeOf (.ref x)) (.ref C) := hc ▸ (Looks.ld hx).andThen .now
  have L1 := looks_mroIn (M := model prog w) X hm
  refine codeAny_call_builtin KF.slot_gs.plain KF.entry_gs (KF.slot_gs.check _ _ _ _ _ _ _ _ KF.type_class (KF.args_gs _ _ _) ?_)
  unfold Builtin.«getset_descriptor.__get__» descrGet
  rw [dga_obj]
  refine wpAny_bind (wpAny_pure ?_)
  unfold descrGetter descrCheckInstance descrNameAndClass isInstance
  simp only [KF.owner_class]
  repeat lk
  refine ⟨Code.quiet_builtin _ (by decide +kernel), codeAny_builtin KF.entry_class ?_⟩
  unfold Builtin.«object.__class__» shownTypeOf
  repeat lk
  exact h
theorem getattr_exc {Q : Option Value → Shared → Prop} (X : K.In s.heap) (I : IsExc x C s.heap) (L : ExcLook K C) (h : Q (some (.ref C)) { s with toks := s.toks + 1 }) : wpAny (model prog w) A (getAttr? (.ref x) "__class__") Q E s := by
  obtain ⟨hh, g, d, t, os⟩ := s
  obtain ⟨o, vs, hx, hc, hd⟩ := id I
  have L0 : Looks (model prog w) hh (typeOf (.ref x)) (.ref C) := hc ▸ (Looks.ld hx).andThen .now
  have L1 := looks_findIn (M := model prog w) X L.ga
  have L2 := looks_findIn (M := model prog w) X L.gt
  have L3 := looks_mroIn (M := model prog w) X L.be
  have LF : Looks (model prog w) hh (Builtin.ObjectAttr.find (.ref x) (.ref C) "__class__") (Found.bind (.builtin "getset_descriptor.__get__") (.builtin "object.__class__")) := looks_find_data X L.cl L.sp L.tk
  unfold getAttr? getAttrBy? getAttrBy
  refine wpAny_bind (wpAny_mkText (wpAny_bind (wpAny_attempt (wpAny_holding (wpAny_bind (L0.at (wpAny_bind (L1.at ?_))))))))
  show wpAny _ _ (if (onTheHeap (Value.ref C) && (Value.builtin "BaseException.__getattribute__" == Value.builtin "object.__getattribute__")) = true then _ else getAttrByItsOwn _ _ _ _ _ _) _ _ _
  rw [if_neg (by
    have z : (Value.builtin "BaseException.__getattribute__" == Value.builtin "object.__getattribute__") = false := by decide +kernel
    rw [z, Bool.and_false]
    decide)]
  unfold getAttrByItsOwn hookBefore
  refine wpAny_bind ?_
  show wpAny _ _ (typeLookup (.ref C) "__getattr__") _ _ _
  refine L2.at ?_
  refine wpAny_bind (wpAny_attempt (wpAny_holding ?_))
  unfold callGetattribute
  rw [if_neg (by decide +kernel)]
  unfold boundAndCalled
  rw [PySem.F.excAttr_ValueError.ga.bind (.ref x)]
  refine wpAny_bind (wpAny_pure ?_)
  refine wpAny_call (codeAny_call_builtin PySem.F.excAttr_ValueError.ga.plain PySem.F.entry_bexc_ga ?_)
  have hk : builtinKind "BaseException.__getattribute__" = some .slot := by decide +kernel
  have hsplit : splitId "BaseException.__getattribute__" = some ("BaseException", "__getattribute__") := by decide +kernel
  have ha := PySem.F.args_bexc_ga (.ref x) (.str "__class__" t)
  show wpAny _ _ (checkBuiltinCall "BaseException.__getattribute__" ⟨[.ref x, .str "__class__" t], []⟩) _ _ _
  simp only [checkBuiltinCall, hk, hsplit]
  refine wpAny_bind ?_
  unfold isInstance
  repeat lk
  refine wpAny_run (class_get_exc (s := ⟨hh, g, d, t + 1, os⟩) X I L.ob ?_)
  exact wpAny_pure (wpAny_pure (wpAny_pure (wpAny_pure h)))
end
end L2


set_option Elab.async false
set_option linter.all false
set_option maxRecDepth 100000
set_option maxHeartbeats 4000000
namespace L2
open PySem PySem.Spec PyProof.Rows

def clStep (env : Env) (x : Str × NameKind) (cs : List (Str × Addr)) : Sem (ForInStep (List (Str × Addr))) :=
  if (x.2 == NameKind.free) = true then (cellOf env x.1 >>= fun a => pure (ForInStep.yield ((x.1, a) :: cs))) else pure (ForInStep.yield cs)
theorem closureFor_go {env : Env} : ∀ (names : List (Str × NameKind)) (cs : List (Str × Addr)), (∀ x ∈ names, x.2 = .free → ∃ c, env.cells.lookup x.1 = some c) →
    ∃ cl : List (Str × Addr), (forIn names cs (clStep env) : Sem (List (Str × Addr))) = pure cl ∧
      (∀ y c, cl.lookup y = some c → cs.lookup y = some c ∨ env.cells.lookup y = some c) ∧ (∀ y, (∃ c, cs.lookup y = some c) → ∃ c, cl.lookup y = some c) ∧ ∀ x ∈ names, x.2 = .free → ∃ c, cl.lookup x.1 = some c
  | [], cs, _ => ⟨cs, rfl, fun _ _ h => .inl h, fun _ h => h, fun _ h => nomatch h⟩
  | (n, k) :: r, cs, h => by
    by_cases hk : k = .free
    · subst hk
      obtain ⟨c, hc⟩ := h (n, .free) List.mem_cons_self rfl
      obtain ⟨cl, e, a, b, d⟩ := closureFor_go r ((n, c) :: cs) fun x hx => h x (List.mem_cons_of_mem _ hx)
      refine ⟨cl, ?_, fun y c' hy => ?_, fun y ⟨c', hy⟩ => ?_, fun x hx hf => ?_⟩
      · rw [List.forIn_cons]
        have e1 : cellOf env n = pure c := by unfold cellOf; rw [hc]
        have e2 : clStep env (n, .free) cs = pure (ForInStep.yield ((n, c) :: cs)) := by
          show (cellOf env n >>= fun a => pure (ForInStep.yield ((n, a) :: cs))) = _
          rw [e1]
          rfl
        rw [e2]
        exact e
      · rcases a y c' hy with z | z
        · rw [List.lookup_cons] at z
          split at z
          · rename_i q
            have : y = n := by simpa using q
            subst this
            cases z
            exact .inr hc
          · exact .inl z
        · exact .inr z
      · refine b y ?_
        rw [List.lookup_cons]
        split
        · exact ⟨_, rfl⟩
        · exact ⟨c', hy⟩
      · rcases List.mem_cons.mp hx with z | z
        · subst z
          refine b n ⟨c, ?_⟩
          rw [List.lookup_cons]; simp
        · exact d x z hf
    · have hb : (k == NameKind.free) = false := by simpa using hk
      obtain ⟨cl, e, a, b, d⟩ := closureFor_go r cs fun x hx => h x (List.mem_cons_of_mem _ hx)
      refine ⟨cl, ?_, a, b, fun x hx hf => ?_⟩
      · rw [List.forIn_cons]
        have e2 : clStep env (n, k) cs = pure (ForInStep.yield cs) := by
          unfold clStep
          rw [if_neg (by rw [hb]; decide)]
        rw [e2]
        exact e
      · rcases List.mem_cons.mp hx with z | z
        · subst z; exact absurd hf hk
        · exact d x z hf
theorem closureFor_of {scope : Scope} {env : Env} (h : ∀ x ∈ scope.names, x.2 = .free → ∃ c, env.cells.lookup x.1 = some c) :
    ∃ cl, closureFor scope env = pure cl ∧ (∀ y c, cl.lookup y = some c → env.cells.lookup y = some c) ∧ ∀ x ∈ scope.names, x.2 = .free → ∃ c, cl.lookup x.1 = some c := by
  obtain ⟨cl, e, a, _, d⟩ := closureFor_go scope.names [] h
  refine ⟨cl, ?_, fun y c hy => ?_, d⟩
  · have e0 : closureFor scope env = (forIn scope.names [] (clStep env) >>= fun cs => pure cs) := by
      unfold closureFor
      congr 1
    rw [e0, e]
    rfl
  · rcases a y c hy with z | z
    · cases z
    · exact z

section
variable {prog : Program} {w : World} {A : Around} {R : Result → Shared → Prop} {s : Shared}
theorem compLoop_gen {elt target iter : Expr} {ifs : List Expr} {scope : Scope} {pos : Pos} {it acc : Value} {env : Env} (I : Nat → Shared → Prop)
    (turn : ∀ n s, I n s → wpAny (model prog w) A (pyNext it) (fun r s₁ => match r with
      | none => R (.ok .next) s₁
      | some v => wpAny (model prog w) A (letOwnedTupleGo target it v) (fun _ s₁' => wpAny (model prog w) A (assign target env v) (fun _ s₂ =>
          wpAny (model prog w) A (forIn ifs true fun c r => if r = true then do let ok ← isTrue c env (eval c env); pure (ForInStep.yield ok) else pure (ForInStep.yield r)) (fun ok s₃ =>
            if ok = true then wpAny (model prog w) A (eval elt env) (fun x s₄ =>
              wpAny (model prog w) A (call (.builtin "list.append") [acc, x]) (fun _ s₅ => ∃ m, m < n ∧ I m s₅) (notedBy (model prog w) A env fun e s' => R (.error e) s') s₄) (notedBy (model prog w) A env fun e s' => R (.error e) s') s₃
            else ∃ m, m < n ∧ I m s₃) (notedBy (model prog w) A env fun e s' => R (.error e) s') s₂) (notedBy (model prog w) A env fun e s' => R (.error e) s') s₁') (notedBy (model prog w) A env fun e s' => R (.error e) s') s₁) (notedBy (model prog w) A env fun e s' => R (.error e) s') s)
    (n : Nat) (h : I n s) :
    codeAny (model prog w) A (.compLoop (.ListComp elt [⟨target, iter, ifs, 0⟩] scope pos) 0 it acc env) R s := by
  refine codeAny_loop rfl I (fun n s hI => ?_) n h
  show wpAny _ A ((compTurn (.ListComp elt [⟨target, iter, ifs, 0⟩] scope pos) 0 it acc env).onRaise (fun x => do noteFrame x env; theTreesLotGoes x)) _ _ s
  refine wpAny_noted ?_
  rw [compTurn_list]
  refine wpAny_bind (wpAny_standAt (wpAny_bind (wpAny_mono (turn n s hI) (fun r s₁ h₁ => ?_) fun _ _ h' => h')))
  cases r with
  | none => exact wpAny_pure h₁
  | some v =>
    refine wpAny_bind (wpAny_mono h₁ (fun _ s₁' h₁' => ?_) fun _ _ h' => h')
    refine wpAny_bind (wpAny_mono h₁' (fun _ s₂ h₂ => wpAny_bind (wpAny_mono h₂ (fun ok s₃ h₃ => ?_) fun _ _ h' => h')) fun _ _ h' => h')
    cases ok with
    | false => exact wpAny_pure ⟨rfl, h₃⟩
    | true =>
      exact wpAny_bind (wpAny_bind (wpAny_mono h₃ (fun x s₄ h₄ => wpAny_bind (wpAny_mono h₄ (fun _ s₅ h₅ => wpAny_pure (wpAny_pure ⟨rfl, h₅⟩)) fun _ _ h' => h')) fun _ _ h' => h'))
end

def PIf (X : Cx) (ifs : List Expr) (t : TT) : Prop :=
  ∀ (pins : List (Addr × Obj)) (s : Shared) (σ : St) (H : Hp) (Q : Bool → Hp → Prop), Inv X pins σ H s → t σ H Q →
    wpAny (model X.prog X.w) X.A (forIn ifs true fun c r => if r = true then do let ok ← isTrue c X.env (eval c X.env); pure (ForInStep.yield ok) else pure (ForInStep.yield r)) (TP X pins σ Q) X.xe s
def tYes : TT := fun _ H Q => Q true H
theorem pif_nil {X : Cx} : PIf X [] tYes := fun _ _ _ H _ I h => wpAny_tests_nil ⟨H, I, h⟩
theorem pif_one {X : Cx} {c : Expr} {t : TT} (h : PT X c t) : PIf X [c] t := fun pins s σ H Q I hq => wpAny_tests_one (h pins s σ H Q I hq)

def cxComp (X : Cx) (N : List Str) (scope : Scope) (cl : List (Str × Addr)) (C : Addr) (s : Shared) (H : Hp) (fp : List Addr) (pins : List (Addr × Obj)) : Cx :=
  { X with N := N, s₀ := s, H₀ := H, env := compEnvC scope cl C X.env, outer := X.stack, ex := fp, fn := fun _ => false, pn := X.pn ++ pins, xe := fun _ _ => False }

theorem relabel_lookup {env : Env} : ∀ {names : List (Str × NameKind)} {x : Str} {k : NameKind}, (∀ y ∈ names, y.2 ≠ .cell) → (k = .cell ∨ k = .free) →
    (names.map fun (n, k) => if (k == NameKind.free && env.scope.kind == .function && env.kindOf n == some .cell) then (n, NameKind.cell) else (n, k)).lookup x = some k → names.lookup x = some .free
  | [], _, _, _, _, h => by cases h
  | (n, k') :: r, x, k, hc, hk, h => by
    have ih := @relabel_lookup env r x k (fun y hy => hc y (List.mem_cons_of_mem _ hy)) hk
    have h' : List.lookup x ((if (k' == NameKind.free && env.scope.kind == .function && env.kindOf n == some .cell) = true then (n, NameKind.cell) else (n, k')) :: (r.map fun (n, k) => if (k == NameKind.free && env.scope.kind == .function && env.kindOf n == some .cell) then (n, NameKind.cell) else (n, k))) = some k := h
    rw [List.lookup_cons]
    by_cases hx : (x == n) = true
    · rw [hx]
      by_cases c : (k' == NameKind.free && env.scope.kind == .function && env.kindOf n == some .cell) = true
      · simp only [Bool.and_eq_true, beq_iff_eq] at c
        rw [c.1.1]
      · rw [if_neg c, List.lookup_cons, hx] at h'
        have e : k' = k := Option.some.inj h'
        subst e
        rcases hk with z | z
        · exact absurd z (hc (n, k') List.mem_cons_self)
        · rw [z]
    · have hx' : (x == n) = false := by simpa using hx
      rw [hx']
      refine ih ?_
      by_cases c : (k' == NameKind.free && env.scope.kind == .function && env.kindOf n == some .cell) = true
      · rw [if_pos c, List.lookup_cons, hx'] at h'
        exact h'
      · rw [if_neg c, List.lookup_cons, hx'] at h'
        exact h'
theorem relabel_free {env : Env} : ∀ {names : List (Str × NameKind)} {x : Str}, names.lookup x = some .free →
    (names.map fun (n, k) => if (k == NameKind.free && env.scope.kind == .function && env.kindOf n == some .cell) then (n, NameKind.cell) else (n, k)).lookup x = some .cell ∨
    (names.map fun (n, k) => if (k == NameKind.free && env.scope.kind == .function && env.kindOf n == some .cell) then (n, NameKind.cell) else (n, k)).lookup x = some .free
  | [], _, h => by cases h
  | (n, k') :: r, x, h => by
    have ih := @relabel_free env r x
    show List.lookup x ((if (k' == NameKind.free && env.scope.kind == .function && env.kindOf n == some .cell) = true then (n, NameKind.cell) else (n, k')) :: _) = _ ∨ List.lookup x ((if (k' == NameKind.free && env.scope.kind == .function && env.kindOf n == some .cell) = true then (n, NameKind.cell) else (n, k')) :: _) = _
    rw [List.lookup_cons] at h
    by_cases hx : (x == n) = true
    · rw [hx] at h
      have e : k' = .free := Option.some.inj h
      subst e
      by_cases c : (NameKind.free == NameKind.free && env.scope.kind == .function && env.kindOf n == some .cell) = true
      · rw [if_pos c]; simp only [List.lookup_cons, hx]; exact .inl trivial
      · rw [if_neg c]; simp only [List.lookup_cons, hx]; exact .inr trivial
    · have hx' : (x == n) = false := by simpa using hx
      rw [hx'] at h
      by_cases c : (k' == NameKind.free && env.scope.kind == .function && env.kindOf n == some .cell) = true
      · rw [if_pos c]; simp only [List.lookup_cons, hx']; exact ih h
      · rw [if_neg c]; simp only [List.lookup_cons, hx']; exact ih h

def tComp (wi : TI) (σ0 : St → St) (g : TG) (ti : TT) (te : TE) : TE := fun σ H Q => wi σ H fun J H1 => ∀ D, H1 D = none → ∃ W : Nat → Nat → St → Hp → Prop, (∃ m, W 0 m (σ0 σ) (upd H1 D (.lst []))) ∧ ∀ i m σ' H', W i m σ' H' →
  (J.stop i H' ∧ Q (.ref D) H') ∨ (J.go i H' ∧ ∀ x H2, J.yld i H' x H2 → g x σ' H2 fun σ2 H3 => ti σ2 H3 fun b H4 => if b = true then te σ2 H4 fun y H5 => ∃ ys, H5 D = some (.lst ys) ∧ ys.length < sizeLine ∧ ∃ m', m' < m ∧ W (i + 1) m' σ2 (upd H5 D (.lst (ys ++ [y])))
    else ∃ m', m' < m ∧ W (i + 1) m' σ2 H4)

structure Frees (X : Cx) (scope : Scope) (N : List Str) (σ0 : St → St) : Prop where
  len : ∀ σ, (σ0 σ).length = N.length
  at_ : ∀ (σ : St) (i : Nat) (y : Str) (v : V), N[i]? = some y → (σ0 σ)[i]? = some (some v) → scope.names.lookup y = some .free ∧ ∃ j : Nat, X.N[j]? = some y ∧ σ[j]? = some (some v)

theorem pe_comp {X : Cx} {elt tg iter : Expr} {ifs : List Expr} {scope : Scope} {pos : Pos} {N : List Str} {σ0 : St → St} {wi : TI} {g : TG} {ti : TT} {te : TE}
    (hc : X.calm = true) (hF : Frees X scope N σ0) (hvis : ∀ y ∈ scope.names, y.2 = .free → X.env.kindOf y.1 = some .cell ∨ X.env.kindOf y.1 = some .free)
    (hcell : ∀ y ∈ scope.names, y.2 ≠ .cell) (hkind : scope.kind = .function) (hnames : ∀ y ∈ scope.names, y.2 = .local → scope.names.lookup y.1 = some .local) (hfl : ∀ y, scope.names.lookup y = some .free → (y, NameKind.free) ∈ scope.names)
    (hi : PI X tg iter wi) (hg : ∀ cl C s H fp pins, PG (cxComp X N scope cl C s H fp pins) tg g) (ht : ∀ cl C s H fp pins, PIf (cxComp X N scope cl C s H fp pins) ifs ti) (he : ∀ cl C s H fp pins, PE (cxComp X N scope cl C s H fp pins) elt te)
    (hs : ∀ x, foldedSetIterable iter X.env x = pure x := by intro _; rfl) : PE X (.ListComp elt [⟨tg, iter, ifs, 0⟩] scope pos) (tComp wi σ0 g ti te) := by
  intro pins s σ H Q I h
  obtain ⟨cl, hclos, hsub, hhas⟩ := closureFor_of (scope := scope) (env := X.env) fun y hy hf => I.ok.has y.1 (hvis y hy hf)
  rw [eval_ListComp]
  refine wpAny_comprehension_free (use := none) rfl hs hclos hkind hnames (thn (hi pins s σ H _ I h) fun v s1 h1 => thn h1 fun itv s2 h2 => ?_)
  obtain ⟨it, fp, tn, J, H2, e, I2, T, st2, f2, q2⟩ := h2
  subst e
  refine wpAny_newObj_type (wpAny_newFunctionEnv hcell (by intro y hy; simp at hy) (fun h₁ hns₁ hsb₁ => ?_) hkind)
  dsimp only at hns₁ hsb₁ ⊢
  generalize hH2 : s2.heap.push { cls := .type "list", dict := none, data := .seq ([] : List Value).toArray } = G2 at hns₁ hsb₁ ⊢
  have hC : G2.objs.size = s2.heap.objs.size + 1 := by rw [← hH2, Heap.size_push]
  have hDC : s2.heap.objs.size ≠ G2.objs.size := by rw [hC]; exact Nat.ne_of_lt (Nat.lt_succ_self _)
  have below : ∀ b, b < s2.heap.objs.size → b ≠ G2.objs.size ∧ b ≠ s2.heap.objs.size := fun b hb => ⟨by rw [hC]; exact Nat.ne_of_lt (Nat.lt_succ_of_lt hb), Nat.ne_of_lt hb⟩
  have old : ∀ b o, s2.heap.get? b = some o → h₁.get? b = some o := fun b o e => hsb₁.extBut b o (below b (Heap.lt_size e)).1 (Heap.get?_push_of_some _ (hH2 ▸ Heap.get?_push_of_some _ e))
  have hD : h₁.get? s2.heap.objs.size = some { cls := .type "list", dict := none, data := .seq ([] : List Value).toArray } := hsb₁.extBut _ _ hDC (Heap.get?_push_of_some _ (hH2 ▸ Heap.get?_push_size _ rfl))
  have nD : H2 s2.heap.objs.size = none := I2.hok.fresh (Nat.le_refl _)
  have nC : H2 G2.objs.size = none := I2.hok.fresh (by rw [hC]; exact Nat.le_succ _)
  have fpl : ∀ b ∈ fp, b < s2.heap.objs.size := fun b hb => by
    obtain ⟨o, e, _⟩ := T.obj _ _ st2 b hb
    exact Heap.lt_size e
  have cells : ∀ y c, cl.lookup y = some c → ∃ v, s2.heap.IsCell c v := fun y c e => I2.cell y c (hsub y c e)
  have cellLt : ∀ y c, cl.lookup y = some c → c < s2.heap.objs.size := fun y c e => by
    obtain ⟨v, o, ho, _⟩ := cells y c e
    exact Heap.lt_size ho
  have stkNo : ∀ b, b ≠ X.env.locals → b ∉ X.fs → b ∉ frs X.stack := fun b n1 n2 z => by
    rcases List.mem_cons.mp (I2.stkSub b z) with r | r
    · exact n1 r
    · exact n2 r
  obtain ⟨W, ⟨m0, w0⟩, turn⟩ := q2 s2.heap.objs.size nD
  have ok : (cxComp X N scope cl G2.objs.size s2 H2 fp pins).Ok := by
    refine ⟨I2.ok.mod, hkind, I2.ok.glob, I2.ok.blt, (by show s2.heap.objs.size ≤ G2.objs.size; rw [hC]; exact Nat.le_succ _), fun x y c a b => I2.ok.inj x y c (hsub x c a) (hsub y c b), fun x hx => ?_, fun x c a => (nomatch a), I2.ok.hd, I2.ok.frames, .inl rfl, fun b hb => ⟨(below b (fpl b hb)).1, fun x c e => ?_⟩, I2.bs, Nat.le_trans I2.ok.bsz I2.sz, fun b o e hb => ?_, fun b hb => stkNo b (f2 b hb).2.1 (f2 b hb).2.2.1, I2.stack, I2.stkFree⟩
    · have hx' : scope.names.lookup x = some .free := by
        rcases hx with z | z
        · exact relabel_lookup hcell (.inl rfl) z
        · exact relabel_lookup hcell (.inr rfl) z
      exact hhas _ (hfl x hx') rfl
    · exact (f2 b hb).2.2.2.2.1 x c (hsub x c e)
    · rcases (f2 b hb).2.2.2.1 with z | z
      · exact I2.ok.noex b o e z
      · exact absurd (Nat.lt_of_lt_of_le (Heap.lt_size e) (Nat.le_trans I2.ok.bsz z)) (Nat.lt_irrefl _)
  have inv0 : Inv (cxComp X N scope cl G2.objs.size s2 H2 fp pins) [] (σ0 σ) (upd H2 s2.heap.objs.size (.lst [])) { s2 with heap := h₁, toks := s2.toks + ([] : List (Str × Value)).length } := by
    refine ⟨ok, rfl, I2.bare, Un.laid old (Nat.le_refl _) nD, ⟨_, hns₁, fun i y v e1 e2 e3 => ?_⟩, fun y c e => ?_, ?_, fun y c e => ?_, fun p hp => ?_, ?_, hF.len σ⟩
    · obtain ⟨hfr, j, hj, hv⟩ := hF.at_ σ i y v e1 e2
      have hk := hvis _ (hfl y hfr) rfl
      obtain ⟨m, hn, hl⟩ := I2.loc
      obtain ⟨u, r, l⟩ := hl j y v hj hv (.inr (hk.elim .inl .inr))
      refine ⟨u, r, .inr ⟨relabel_free hfr, ?_⟩⟩
      rcases l with ⟨k1, _⟩ | ⟨_, c, hc, hcell⟩
      · rcases hk with z | z
        · rw [k1] at z; cases z
        · rw [k1] at z; cases z
      · obtain ⟨c', hc'⟩ := hhas _ (hfl y hfr) rfl
        have : c' = c := Option.some.inj ((hsub _ _ hc').symm.trans hc)
        subst this
        refine ⟨c', hc', ?_⟩
        obtain ⟨o, ho, hd⟩ := hcell
        exact ⟨o, old _ _ ho, hd⟩
    · obtain ⟨v, o, ho, hd⟩ := cells y c e
      exact ⟨v, o, old _ _ ho, hd⟩
    · show upd H2 s2.heap.objs.size (.lst []) G2.objs.size = none
      rw [upd_ne (Ne.symm hDC)]; exact nC
    · show upd H2 s2.heap.objs.size (.lst []) c = none
      rw [upd_ne (below c (cellLt y c e)).2]; exact I2.freeC y c (hsub y c e)
    · have hp' : p ∈ X.pn ++ pins := by simpa [cxComp] using hp
      obtain ⟨e, n, ne, nf, d⟩ := I2.pin p hp'
      refine ⟨old _ _ e, ?_, (below _ (Heap.lt_size e)).1, stkNo _ ne nf, d⟩
      rw [upd_ne (below _ (Heap.lt_size e)).2]; exact n
    · exact I2.hok.laid old (Nat.le_refl _) ⟨Nat.zero_le _, [], 0, .nil, hD⟩
  have tn0 : tn 0 h₁ := T.keep 0 _ _ st2 fun b _ o e => old b o e
  have stat : ∀ {H' : Hp}, (∀ b ∈ fp, H' b = none) → ∀ b ∈ fp, FpOk (cxComp X N scope cl G2.objs.size s2 H2 fp pins) [] H' b := fun hn b hb =>
    ⟨hn b hb, (below b (fpl b hb)).1, stkNo b (f2 b hb).2.1 (f2 b hb).2.2.1, .inl hb, fun x c e => (f2 b hb).2.2.2.2.1 x c (hsub x c e), fun p hp => (f2 b hb).2.2.2.2.2 p (by simpa [cxComp] using hp)⟩
  have loop : codeAny (model X.prog X.w) X.A (.compLoop (.ListComp elt [⟨tg, iter, ifs, 0⟩] scope pos) 0 (.ref it) (.ref s2.heap.objs.size) (compEnvC scope cl G2.objs.size X.env))
      (compPost (model X.prog X.w) X.A X.xe none (EP X pins σ Q) (.ref s2.heap.objs.size) G2.objs.size) { s2 with heap := h₁, toks := s2.toks + ([] : List (Str × Value)).length } := by
    refine compLoop_gen (fun n s' => ∃ i σ' H', Inv (cxComp X N scope cl G2.objs.size s2 H2 fp pins) [] σ' H' s' ∧ tn i s'.heap ∧ (∀ b ∈ fp, H' b = none) ∧ W i n σ' H') ?_ m0
      ⟨0, σ0 σ, _, inv0, tn0, fun b hb => by rw [upd_ne (below b (fpl b hb)).2]; exact (f2 b hb).1, w0⟩
    rintro n s3 ⟨i, σ3, H3, I3, st3, fr3, w3⟩
    have no : ∀ {α : Type} {t : Sem α} {Q' : α → Shared → Prop} {E' : Value → Shared → Prop} {s' : Shared}, wpAny (model X.prog X.w) X.A t Q' (fun _ _ => False) s' → wpAny (model X.prog X.w) X.A t Q' E' s' := fun h => wpAny_mono h (fun _ _ z => z) fun _ _ z => False.elim z
    rcases turn i n σ3 H3 w3 with ⟨stop, qn⟩ | ⟨go, step⟩
    · refine no (thn (T.done (cxComp X N scope cl G2.objs.size s2 H2 fp pins) rfl rfl rfl hc i [] s3 σ3 H3 _ I3 (stat fr3) st3 stop) fun r s4 ⟨hr, I4⟩ => ?_)
      subst hr
      obtain ⟨m, hn, _⟩ := I4.loc
      refine ⟨m, hn, fun h' hs' => ?_⟩
      have u : Un (frs X.stack) fp H2 H3 s2.heap h' := by
        have b0 : Un (frs X.stack) fp H2 H3 s2.heap s4.heap := I4.base
        have neC : ∀ b o, s2.heap.get? b = some o → b ≠ G2.objs.size := fun b o e => (below b (Heap.lt_size e)).1
        exact ⟨fun b o e n hb hx => (hs'.2 b (neC b o e)).trans (b0.keep b o e n hb hx), fun b o e n hb hx => by
          obtain ⟨sl, z⟩ := b0.slot b o e n hb hx
          exact ⟨sl, (hs'.2 b (neC b o e)).trans z⟩, b0.free, fun b o e hx => by
          obtain ⟨o', z⟩ := b0.there b o e hx
          exact ⟨o', (hs'.2 b (neC b o e)).trans z⟩, b0.tups, b0.frzs, b0.tbls⟩
      have hfreeC : H3 G2.objs.size = none := I4.free
      have hk : HOk X.prog X.w H3 h' := fun b ob e => by
        refine (I4.hok b ob e).stay (fun c w' hc q => (hs'.2 c ?_).trans q) (fun _ q => q) fun _ _ q => q
        rintro rfl
        rcases hc with z | z
        · rw [← z, hfreeC] at e; cases e
        · rw [hfreeC] at z; cases z
      have hos : s4.os = s2.os := I4.os
      have J4 : Inv X pins σ H3 { s4 with heap := h' } := I2.call' (s' := { s4 with heap := h' }) (ch := fp) hos u hk I4.bare fun b hb => ⟨(f2 b hb).2.2.2.1, (f2 b hb).2.1, (f2 b hb).2.2.2.2.1, (f2 b hb).2.2.2.2.2⟩
      exact ⟨.ref s2.heap.objs.size, H3, J4, rfl, qn⟩
    · refine no (thn (T.item (cxComp X N scope cl G2.objs.size s2 H2 fp pins) rfl rfl rfl hc i [] s3 σ3 H3 _ I3 (stat fr3) st3 go) fun r s4 ⟨u, hr, h4⟩ => ?_)
      subst hr
      refine no (thn h4 fun _ s5 ⟨x, H5, I5, r5, y5, st5, fr5⟩ => ?_)
      have I5' := I5.pinned (stat fr5) (T.obj _ _ st5)
      have again : ∀ {s7 : Shared} {σ7 : St} {H7 : Hp} {m' : Nat}, Inv (cxComp X N scope cl G2.objs.size s2 H2 fp pins) ([] ++ pinsAt fp s5.heap) σ7 H7 s7 → m' < n → W (i + 1) m' σ7 H7 → ∃ m, m < n ∧ ∃ i σ' H', Inv (cxComp X N scope cl G2.objs.size s2 H2 fp pins) [] σ' H' s7 ∧ tn i s7.heap ∧ (∀ b ∈ fp, H' b = none) ∧ W i m σ' H' := fun {s7 σ7 H7 m'} I7 hm w7 => by
        refine ⟨m', hm, i + 1, σ7, H7, I7.unpinned, T.keep _ _ _ st5 fun b hb o e => (I7.pin (b, o) (List.mem_append_right _ (List.mem_append_right _ (mem_pinsAt hb e)))).1, fun b hb => ?_, w7⟩
        obtain ⟨o, e, d⟩ := T.obj _ _ st5 b hb
        exact (I7.pin (b, o) (List.mem_append_right _ (List.mem_append_right _ (mem_pinsAt hb e)))).2.1
      refine no (thn (hg cl G2.objs.size s2 H2 fp pins _ s5 σ3 H5 x u _ I5' r5 (step x H5 y5)) fun _ s6 ⟨σ6, H6, I6, q6⟩ => ?_)
      refine no (thn (ht cl G2.objs.size s2 H2 fp pins _ s6 σ6 H6 _ I6 q6) fun b s7 ⟨H7, I7, q7⟩ => ?_)
      cases b with
      | false =>
        rw [if_neg (by decide)] at q7
        obtain ⟨m', hm, w7⟩ := q7
        exact again I7 hm w7
      | true =>
        rw [if_pos rfl] at q7
        refine no (thn (he cl G2.objs.size s2 H2 fp pins _ s7 σ6 H7 _ I7 q7) fun yv s8 ⟨y, H8, I8, r8, ys, hys, hz, m', hm, w8⟩ => ?_)
        refine no (thn (mt_append (X := cxComp X N scope cl G2.objs.size s2 H2 fp pins) _ s8 σ6 H8 (.ref s2.heap.objs.size) [y] _ [yv] (fun _ H9 => H9 = upd H8 s2.heap.objs.size (.lst (ys ++ [y]))) I8 rfl (.cons r8 .nil) ⟨_, ys, y, rfl, rfl, hys, hz, rfl⟩) fun _ s9 ⟨_, H9, I9, _, q9⟩ => ?_)
        subst q9
        exact again I9 hm w8
  exact codeAny_compStart_list loop (T.self X.A 0 _ _ _ tn0 loop)
end L2


set_option Elab.async false
set_option linter.all false
set_option maxRecDepth 100000
set_option maxHeartbeats 4000000
namespace L2
open PySem PySem.Spec PyProof.Rows

def cOf : V → Value
  | .ty n => .type n
  | .ref a => .ref a
  | _ => .none
def isCls : V → Bool
  | .ty _ => true
  | .ref _ => true
  | _ => false
theorem cOf_rel {c : V} {u : Value} (r : RelV c u) (h : isCls c = true) : u = cOf c := by
  cases c <;> first | exact r | exact absurd h Bool.false_ne_true
inductive TyX (K : PySem.W.Frag) (H : Hp) : V → Value → Prop where
  | of {x : V} {t : Value} (h : TyOf K H x t) : TyX K H x t
  | exc {a C : Addr} (e : H a = some (.ext (IsExc a C))) (L : ExcLook K C) (hc : (PySem.W.clsIn K C).isSome = true) : TyX K H (.ref a) (.ref C)
theorem kitx_exc {K : PySem.W.Frag} {x C : Addr} (L : ExcLook K C) (hc : (PySem.W.clsIn K C).isSome = true) : PySem.W.KitX K (.ref x) (.ref C) (IsExc x C) where
  ty := fun _ _ _ I => by
    obtain ⟨o, vs, hx, hcl, hd⟩ := I
    exact hcl ▸ (PySem.W.Looks.ld hx).andThen .now
  it := fun _ _ X _ => by
    obtain ⟨cd, hcD⟩ := Option.isSome_iff_exists.mp hc
    unfold PySem.W.clsIn at hcD
    split at hcD
    · rename_i c' d' cd' sl' ho
      intro A' Q' E' s' k q
      unfold isType loadHead
      exact wpAny_bind (wpAny_loadPart (k _ _ (X _ _ ho)) (wpAny_pure q))
    · cases hcD
  ne := fun h tp dd its n sl X htp => by
    obtain ⟨cd, hcD⟩ := Option.isSome_iff_exists.mp hc
    refine Bool.eq_false_iff.mpr fun q => ?_
    have e : C = tp := Value.ref.inj (beq_iff_eq.mp q)
    subst e
    unfold PySem.W.clsIn at hcD
    split at hcD
    · rename_i c' d' cd' sl' ho
      have z := (X _ _ ho).symm.trans htp
      cases z
    · cases hcD
  ca := fun X I k => getattr_exc X I L k
section
variable {X : Cx}
theorem call_isi {K : PySem.W.Frag} (hK : X.K = K) : CallR X (.builtin "isinstance") (fun xs H Q => ∃ x c t b, xs = [x, c] ∧ isCls c = true ∧ TyX K H x t ∧ PySem.W.kitOne K t (cOf c) = some b ∧ Q (.bl b) H) := by
  subst hK
  intro pins s σ H xs us Q I r h
  obtain ⟨x, c, t, b, rfl, hc, ty, e, q⟩ := h
  obtain ⟨u, v, rfl, rx, rc⟩ := Vals.two r
  rw [cOf_rel rc hc]
  have fin : ∀ tk, EP X pins σ Q (.bool b) { s with toks := tk } := fun tk => ⟨.bl b, H, I.tok tk, rfl, q⟩
  cases ty with
  | of h => exact isinst_ok I rx h e fin
  | @exc a C ea L hcl =>
    cases (show u = Value.ref a from rx)
    have z : ObjOk X.prog X.w H s.heap a (.ext (IsExc a C)) := I.hok a _ ea
    exact PySem.W.kia_one (kitx_exc L hcl) I.kIn z.1 e (fun z => nomatch z) fin
theorem op_fdivB : OpR X (binaryOp .FloorDiv) (rI (fun _ j => j ≠ 0 ∧ j.natAbs.log2 < 9000) fun i j => .int (i.fdiv j)) := opI fun _ _ _ _ _ _ _ hc q => floordiv_int hc.1 q (.inl (PyProof.noPylong_of_log2 hc.2))
end
structure FunD (K : PySem.W.Frag) (x qual : Str) (st : Stmt) (dV : Value) (f : Addr) (fd : FuncData) : Prop where
  ex : ∃ (oc : Value) (od : Option Addr) (kV doc pm : Value) (an : Option Addr) (cdv ct : Value) (osl : Array (Option Value)),
    fd = PySem.W.fnOf x qual (defArgs st) (defBody st) (defScope st) dV kV doc pm an cdv ct ∧ K.lookup f = some ⟨oc, od, .func fd, osl⟩ ∧ PySem.W.codeIn K cdv qual = true
  kp : PySem.W.keepIn K (.ref f) = true
theorem FunD.okX {P : Program} {w : World} {K : PySem.W.Frag} {mg : Str → Option Value} {base : Heap} {x qual : Str} {st : Stmt} {dV : Value} {f : Addr} {fd : FuncData} {N ps : List Str} {k : Nat} {sp : Sp} (F : FunD K x qual st dV f fd) (S : FnScope N ps (defScope st)) (len : ∀ vs H Q E, sp vs H Q E → vs.length = ps.length)
    (hbody : ∀ (cdv : Value) (A : Around) (outer : List Env) (s : Shared) (H : Hp) (vs : List V) (Q : VK) (E : XK), Room k (A.deeper (envOfC qual (defScope st) s.heap.objs.size f cdv)) → sp vs H Q E →
      ∃ t, PSs (cxOf (CXF P w) P w K mg base N qual (defScope st) f cdv A outer s H E) (defBody st) t ∧ t { nx := fun _ H' => Q .non H', rt := Q } (start N vs) H) : FnOk P w K mg base (CXF P w) (k + 1) f fd ps sp := by
  obtain ⟨oc, od, kV, doc, pm, an, cdv, ct, osl, rfl, lk, hcd⟩ := F.ex
  exact fn_of lk hcd S len fun A outer s H vs Q E hr hsp => hbody cdv A outer s H vs Q E hr hsp
theorem funD_mk {K : PySem.W.Frag} {x qual : Str} {st : Stmt} {dV : Value} {f : Addr} {oc : Value} {od an : Option Addr} {osl : Array (Option Value)} {kV doc pm cdv ct : Value} (l : K.lookup f = some ⟨oc, od, .func (PySem.W.fnOf x qual (defArgs st) (defBody st) (defScope st) dV kV doc pm an cdv ct), osl⟩)
    (c : PySem.W.codeIn K cdv qual = true) (k : PySem.W.keepIn K (.ref f) = true) : FunD K x qual st dV f (PySem.W.fnOf x qual (defArgs st) (defBody st) (defScope st) dV kV doc pm an cdv ct) := ⟨⟨oc, od, kV, doc, pm, an, cdv, ct, osl, rfl, l, c⟩, k⟩
def eqVs : List V → List V → Bool
  | [], [] => true
  | x :: xs, y :: ys => eqV x y && eqVs xs ys
  | _, _ => false
theorem eqVs_range {xs ys : List V} : ((List.range (min xs.length ys.length)).all (fun j => eqV (xs.getD j .non) (ys.getD j .non)) && xs.length == ys.length) = eqVs xs ys := by
  induction xs generalizing ys with
  | nil =>
    cases ys with
    | nil => rfl
    | cons y ys => simp [eqVs]
  | cons x xs ih =>
    cases ys with
    | nil => simp [eqVs]
    | cons y ys =>
      have h := @ih ys
      rw [eqVs, ← h, List.length_cons, List.length_cons, Nat.succ_min_succ, List.range_succ_eq_map, List.all_cons, List.all_map]
      have e1 : (xs.length + 1 == ys.length + 1) = (xs.length == ys.length) := by simp
      rw [e1]
      have e2 : (List.range (min xs.length ys.length)).all ((fun j => eqV ((x :: xs).getD j .non) ((y :: ys).getD j .non)) ∘ Nat.succ) = (List.range (min xs.length ys.length)).all (fun j => eqV (xs.getD j .non) (ys.getD j .non)) := rfl
      rw [e2, Bool.and_assoc]
      rfl
theorem op_eqTF {X : Cx} (hu : X.A.units < cLine) : OpR X (compareOp .Eq) (fun x y H Q => ∃ p q xs ys, x = .ref p ∧ y = .ref q ∧ SqT X.K H p xs ∧ SqT X.K H q ys ∧ xs.all flatV = true ∧ ys.all flatV = true ∧ Q (.bl (eqVs xs ys)) H) := by
  intro pins s σ H x y v u Q I rx ry h
  obtain ⟨p, q, xs, ys, rfl, rfl, hx, hy, fx, fy, hq⟩ := h
  cases rx
  cases ry
  obtain ⟨its, r, pl, hz⟩ := I.tuple hx
  obtain ⟨its2, r2, pl2, hz2⟩ := I.tuple hy
  refine SeqAt.eq_tupleAt (e := fun j => eqV (xs.getD j .non) (ys.getD j .non)) (show s.heap.IsTuple p its.toArray from pl) (show s.heap.IsTuple q its2.toArray from pl2) hu (fun j h1 h2 => ?_) ?_
  · have j1 : j < xs.length := by rw [r.length]; simpa using h1
    have j2 : j < ys.length := by rw [r2.length]; simpa using h2
    obtain ⟨u1, e1, q1⟩ := r.get (i := j) (x := xs[j]) (by simp [j1])
    obtain ⟨u2, e2, q2⟩ := r2.get (i := j) (x := ys[j]) (by simp [j2])
    have z1 : its.toArray[j] = u1 := by
      have := e1
      rw [List.getElem?_eq_getElem (by simpa using h1)] at this
      simpa using Option.some.inj this
    have z2 : its2.toArray[j] = u2 := by
      have := e2
      rw [List.getElem?_eq_getElem (by simpa using h2)] at this
      simpa using Option.some.inj this
    have g1 : xs.getD j .non = xs[j] := by simp [List.getD, j1]
    have g2 : ys.getD j .non = ys[j] := by simp [List.getD, j2]
    rw [z1, z2, g1, g2]
    exact eqAt_V q1 q2 (List.all_eq_true.mp fx _ (List.getElem_mem j1)) (List.all_eq_true.mp fy _ (List.getElem_mem j2))
  · rw [List.size_toArray, List.size_toArray, ← r.length, ← r2.length, eqVs_range]
    exact ⟨.bl _, H, I, rfl, hq⟩
theorem bt_isinstance : bootBuiltins "isinstance" = some (.builtin "isinstance") := by decide +kernel
theorem bt_len : bootBuiltins "len" = some (.builtin "len") := by decide +kernel
theorem bt_abs : bootBuiltins "abs" = some (.builtin "abs") := by decide +kernel
theorem bt_int : bootBuiltins "int" = some (.type "int") := by decide +kernel
theorem bt_bool : bootBuiltins "bool" = some (.type "bool") := by decide +kernel
theorem bt_tuple : bootBuiltins "tuple" = some (.type "tuple") := by decide +kernel
theorem bt_list : bootBuiltins "list" = some (.type "list") := by decide +kernel
theorem bt_enumerate : bootBuiltins "enumerate" = some (.type "enumerate") := by decide +kernel
theorem iteY {c : Bool} {A B : Prop} (h : c = true) (a : A) : if c = true then A else B := by rw [if_pos h]; exact a
theorem iteN {c : Bool} {A B : Prop} (h : c = false) (b : B) : if c = true then A else B := by rw [if_neg (by rw [h]; decide)]; exact b
theorem dI {a b : Int} : decide (V.int a = V.int b) = decide (a = b) := by
  by_cases g : a = b
  · rw [g, decide_eq_true rfl, decide_eq_true rfl]
  · rw [decide_eq_false g, decide_eq_false (fun z => g (by injection z))]
theorem eqY {a b : Int} (h : a = b) : decide (V.int a = V.int b) = true := by rw [dI]; exact decide_eq_true h
theorem eqN {a b : Int} (h : ¬ a = b) : decide (V.int a = V.int b) = false := by rw [dI]; exact decide_eq_false h
theorem neY {a b : Int} (h : ¬ a = b) : (!decide (V.int a = V.int b)) = true := by rw [eqN h]; rfl
theorem neN {a b : Int} (h : a = b) : (!decide (V.int a = V.int b)) = false := by rw [eqY h]; rfl
end L2


set_option Elab.async false
set_option linter.all false
set_option maxRecDepth 100000
set_option maxHeartbeats 4000000
namespace L2
open PySem PySem.Spec PyProof.Rows
section
variable {X : Cx} {e v v₁ v₂ : Expr} {te : TE} {pos : Pos} {es : List Expr}
end
end L2


set_option Elab.async false
set_option linter.all false
set_option maxRecDepth 100000
set_option maxHeartbeats 4000000
namespace L2
open PySem PySem.Spec PyProof.Rows
section
variable {P : Program} {w : World} {K : PySem.W.Frag} {mg : Str → Option Value} {base : Heap}
end
section
variable {X : Cx} {k : Nat} {f : Addr} {fd : FuncData} {ps : List Str} {sp : Sp} {dvs : List V} {ds : List Value} {x : Str} {p pos : Pos} {e : Expr} {es : List Expr} {t : TA}
end
theorem FnOk.to0 {P : Program} {w : World} {K : PySem.W.Frag} {mg : Str → Option Value} {base : Heap} {k : Nat} {f : Addr} {fd : FuncData} {ps : List Str} {sp : Sp} (F : FnOk P w K mg base (CXF P w) k f fd ps sp) : FnOk P w K mg base CX0 k f fd ps (fun vs H Q _ => sp vs H Q E0) :=
  ⟨fun vs H Q E h => F.len vs H Q E0 h, fun A outer s H args us vs Q E hr he hb hv hs => codeAny_mono (F.run A outer s H args us vs Q E0 hr he hb hv hs) fun r s' q => by
    cases r with
    | error e => obtain ⟨_, _, _, _, _, _, _, _, z⟩ := q; exact False.elim z
    | ok fl => cases fl <;> exact q⟩
def Ite (K : PySem.W.Frag) (a : Addr) : It :=
  ⟨fun i H => ∃ xs x, SqL K H a xs ∧ xs[i]? = some x, fun i H v H' => ∃ p x, H p = none ∧ v = .ref p ∧ H' = upd H p (.tup [.int i, x]) ∧ ∀ xs, SqL K H a xs → xs[i]? = some x, fun i H => ∃ xs, SqL K H a xs ∧ xs.length ≤ i⟩
theorem turn_enum {P : Program} {w : World} {K : PySem.W.Frag} {elts : List Expr} {x1 : Nat} {pos : Pos} (a it e : Addr) (hne : e ≠ it) : Turn P w K (.Tuple elts x1 pos) (Ite K a) [e, it] e (fun i h => (∃ old, IsEnum h e it i old) ∧ h.IsListIter it a i) where
  mem := by simp
  obj := fun i h st b hb => by
    obtain ⟨⟨old, he⟩, hit⟩ := st
    have hb' : b = e ∨ b = it := by simpa using hb
    rcases hb' with rfl | rfl
    · exact ⟨_, he, fun v z => nomatch z⟩
    · obtain ⟨o, e, c, d⟩ := hit
      exact ⟨o, e, fun v z => by rw [d] at z; cases z⟩
  keep := fun i h h' st k => by
    obtain ⟨⟨old, he⟩, o, ho, r⟩ := st
    exact ⟨⟨old, k e (by simp) _ he⟩, o, k it (by simp) o ho, r⟩
  item := by
    intro X hP hw hK hc i pins s σ H E I hf st hg
    subst hP hw hK
    obtain ⟨⟨old, he⟩, hit⟩ := st
    obtain ⟨xs, x, hq, hx⟩ := hg
    obtain ⟨its, rv, p, hz⟩ := I.list hq
    obtain ⟨u, hu, ru⟩ := rv.get hx
    have fe := hf e (by simp)
    have fi := hf it (by simp)
    refine wpAny_pyNext_enum_item he hit p.isList (x := u) (by simpa using hu) hne fun h' ho' hit' ht' hsz' hk' => ?_
    refine ⟨_, rfl, wpAny_letOwnedTupleGo_enum (s := { s with heap := h', toks := s.toks + 1 }) ho' fun h2 he2 sb2 => ?_⟩
    have hel : e < s.heap.objs.size := Heap.lt_size he
    have nn : H s.heap.objs.size = none := I.hok.fresh (Nat.le_refl _)
    have keep : ∀ b o, b ≠ e → b ≠ it → s.heap.get? b = some o → h2.get? b = some o := fun b o n1 n2 q => (sb2.2 b n1).trans (hk' b o n1 n2 q)
    have nt : ∀ b u, H b = some u → b ≠ e ∧ b ≠ it := fun b u q => ⟨(fun z => by rw [z, fe.1] at q; cases q), (fun z => by rw [z, fi.1] at q; cases q)⟩
    have mem2 : ∀ b, b ∉ [e, it] → b ≠ e ∧ b ≠ it := fun b hb => by simpa using hb
    have I1 : Inv X pins σ H { s with heap := h2, toks := s.toks + 1 } := by
      refine I.step (g' := s.gens) (d' := s.drawn) (ch := [e, it]) (fun b hb => ?_) (fun b o _ _ hc q _ => keep b o (mem2 b hc).1 (mem2 b hc).2 q) (fun b o _ _ hc q _ => ⟨o.slots, keep b o (mem2 b hc).1 (mem2 b hc).2 q⟩) (fun _ _ _ _ n => n)
        (fun b o hc q => ⟨o, keep b o (mem2 b hc).1 (mem2 b hc).2 q⟩) (fun _ _ q => q) (fun _ _ _ q => q) (fun b ps q => ⟨#[], by rw [q]; simp⟩) (fun m hm => ?_) (fun b u q => ?_) I.bare
      · have hb' : b = e ∨ b = it := by simpa using hb
        rcases hb' with rfl | rfl
        · exact ⟨fe.2.2.2.1, fe.2.1, fe.2.2.2.2.1, fe.2.2.2.2.2⟩
        · exact ⟨fi.2.2.2.1, fi.2.1, fi.2.2.2.2.1, fi.2.2.2.2.2⟩
      · obtain ⟨o, es, ep, ho, r⟩ := hm
        exact ⟨o, es, ep, keep _ o (Ne.symm fe.2.1) (Ne.symm fi.2.1) ho, r⟩
      · refine (I.hok b u q).stay (fun c v hc q' => keep c v ?_ ?_ q') (fun _ q' => q') fun _ _ q' => q'
        · rcases hc with z | z
          · rw [z]; exact (nt b u q).1
          · exact (nt c _ z).1
        · rcases hc with z | z
          · rw [z]; exact (nt b u q).2
          · exact (nt c _ z).2
    have ge := Nat.le_refl s.heap.objs.size
    have ht2 : h2.get? s.heap.objs.size = some { cls := .type "tuple", data := .seq #[.int i s.toks, u] } := (sb2.2 _ (Nat.ne_of_gt hel)).trans ht'
    have I2 : Inv X pins σ (upd H s.heap.objs.size (.tup [.int i, x])) { s with heap := h2, toks := s.toks + 1 } := by
      refine I1.adopt nn ?_ ?_ (fun y c q z => ?_) (fun p hp z => ?_) ⟨(by show 2 ≤ sizeLine; decide), [.int i s.toks, u], .cons ⟨_, rfl⟩ (.cons ru .nil), ?_⟩
      · cases z : X.s₀.heap.get? s.heap.objs.size with
        | none => rfl
        | some o => exact absurd (Nat.lt_of_lt_of_le (Heap.lt_size z) I.sz) (Nat.lt_irrefl _)
      · exact Nat.ne_of_gt I.lt
      · obtain ⟨v, q'⟩ := I.cell y c q
        exact absurd q'.lt (by rw [z]; exact Nat.lt_irrefl _)
      · exact absurd (Heap.lt_size (I.pin p hp).1) (by rw [z]; exact Nat.lt_irrefl _)
      · exact ⟨_, ht2, ⟨rfl, rfl⟩, 0, rfl⟩
    refine ⟨.ref s.heap.objs.size, _, I2, rfl, ⟨s.heap.objs.size, x, nn, rfl, rfl, fun ys hy => by rw [I.list_inj hy hq]; exact hx⟩, ⟨⟨_, he2⟩, hit'.extBut sb2.extBut (Ne.symm hne)⟩, fun b hb => ?_⟩
    have hlt : b < s.heap.objs.size := by
      have hb' : b = e ∨ b = it := by simpa using hb
      rcases hb' with rfl | rfl
      · exact hel
      · obtain ⟨o, e, _⟩ := hit; exact Heap.lt_size e
    rw [upd_ne (Nat.ne_of_lt hlt)]
    exact (hf b hb).1
  done := by
    intro X hP hw hK hc i pins s σ H E I hf st hg
    subst hP hw hK
    obtain ⟨⟨old, he⟩, hit⟩ := st
    obtain ⟨xs, hq, hx⟩ := hg
    obtain ⟨its, rv, p, hz⟩ := I.list hq
    obtain ⟨f0, f1, f2, f3, f4, f5⟩ := hf it (by simp)
    have hl := rv.length
    exact wpAny_pyNext_enum_end (I.ok.hd hc) he hit p.isList (by simp; omega) fun h' eb => ⟨rfl, I.turned (t' := s.toks) (fun b o hb e => eb b o hb e) f0 f1 f3 f4 f5⟩
  self := fun _ _ _ _ _ st h => let ⟨⟨_, he⟩, _⟩ := st; wpAny_pyIter_enum he h

def iEnum (K : PySem.W.Frag) (ta : TA) : TI := fun σ H R => ta σ H fun vs H1 => ∃ a, vs = [.ref a] ∧ (∃ xs, SqL K H1 a xs) ∧ R (Ite K a) H1
theorem pi_enum {X : Cx} {elts : List Expr} {x1 : Nat} {tpos : Pos} {a : Expr} {ta : TA} {p pos : Pos} (hg : Gl X "enumerate") (hm : X.mg "enumerate" = none) (ha : PA X [a] ta) (hs : starEach [a] X.env = [(false, eval a X.env)] := by rfl) :
    PI X (.Tuple elts x1 tpos) (.Call (.Name "enumerate" p) [a] [] pos) (iEnum X.K ta) := by
  intro pins s σ H R I h
  refine Call_ (ld_blt I hg hm bt_enumerate (PyProof.Rows.callWith_type1 (thn (ha pos pins s σ H _ I h) fun us s1 ⟨vs, H1, I1, r1, q1⟩ => ?_) hs rfl))
  obtain ⟨l, e, ⟨xs, hq⟩, q⟩ := q1
  subst e
  obtain ⟨u, rfl, rx⟩ := r1.one
  cases (show u = Value.ref l from rx)
  obtain ⟨its, rv, pl, hz⟩ := I1.list hq
  refine call_enumerate_list pl.isList fun h' he hit hsz hk => ?_
  refine wpAny_pyIter_enum he ?_
  have I2 : Inv X pins σ H1 { s1 with heap := h' } := I1.kept (t' := s1.toks) hk
  refine ⟨s1.heap.objs.size + 1, [s1.heap.objs.size + 1, s1.heap.objs.size], _, _, H1, rfl, I2, turn_enum l _ _ (Nat.succ_ne_self _), ⟨⟨_, he⟩, hit⟩, fun b hb => ?_, q⟩
  have hb' : b = s1.heap.objs.size + 1 ∨ b = s1.heap.objs.size := by simpa using hb
  have ge : s1.heap.objs.size ≤ b := by
    rcases hb' with rfl | rfl
    · exact Nat.le_succ _
    · exact Nat.le_refl _
  have F := I1.fpOk ge (I1.hok.fresh ge)
  exact F
theorem for_enum {K : PySem.W.Frag} {a : Addr} {xs : List V} {g : TG} {tb : TS} {D : Ends} {σ : St} {H : Hp} (Pv : Nat → St → Hp → Prop) (h0 : Pv 0 σ H) (hl : ∀ i σ H, i ≤ xs.length → Pv i σ H → SqL K H a xs)
    (hs : ∀ i x σ H, xs[i]? = some x → Pv i σ H → ∀ p, H p = none → g (.ref p) σ (upd H p (.tup [.int i, x])) fun σ2 H2 => tb { D with nx := Pv (i + 1), ct := Pv (i + 1), bk := D.nx } σ2 H2) (hd : ∀ σ H, Pv xs.length σ H → D.nx σ H) :
    ∃ W : Nat → Nat → St → Hp → Prop, (∃ m, W 0 m σ H) ∧ ∀ i m σ H, W i m σ H →
      ((Ite K a).stop i H ∧ D.nx σ H) ∨ ((Ite K a).go i H ∧ ∃ N : St → Hp → Prop, (∀ σ' H', N σ' H' → ∃ m', m' < m ∧ W (i + 1) m' σ' H') ∧ ∀ x H', (Ite K a).yld i H x H' → g x σ H' fun σ2 H2 => tb { D with nx := N, ct := N, bk := D.nx } σ2 H2) := by
  refine ⟨fun i m σ H => m = xs.length - i ∧ i ≤ xs.length ∧ Pv i σ H, ⟨xs.length, by simp, Nat.zero_le _, h0⟩, ?_⟩
  rintro i m σ H ⟨rfl, hi, p⟩
  have q := hl i σ H hi p
  by_cases hlt : i < xs.length
  · refine .inr ⟨⟨xs, xs[i], q, by simp [hlt]⟩, Pv (i + 1), fun σ' H' p' => ⟨xs.length - (i + 1), by omega, rfl, hlt, p'⟩, fun v H' y => ?_⟩
    obtain ⟨p', x, hn, rfl, rfl, y⟩ := y
    exact hs i x σ _ (y xs q) p p' hn
  · have e : i = xs.length := by omega
    subst e
    exact .inl ⟨⟨xs, q, Nat.le_refl _⟩, hd σ H p⟩
theorem eqVs_len {xs ys : List V} (h : xs.length = ys.length) : (List.range xs.length).all (fun j => eqV (xs.getD j .non) (ys.getD j .non)) = eqVs xs ys := by
  have e := @eqVs_range xs ys
  rw [← h, Nat.min_self, beq_self_eq_true, Bool.and_true] at e
  exact e
theorem eqVs_ne {xs ys : List V} (h : xs.length ≠ ys.length) : eqVs xs ys = false := by
  have e := @eqVs_range xs ys
  rw [← e]
  have : (xs.length == ys.length) = false := by simpa using h
  rw [this, Bool.and_false]
theorem eqAt_items {X : Cx} {A : Around} {s : Shared} {xs ys : List V} {its its2 : List Value} (r : Vals xs its) (r2 : Vals ys its2) (fx : xs.all flatV = true) (fy : ys.all flatV = true) (j : Nat) (h1 : j < its.toArray.size) (h2 : j < its2.toArray.size) :
    SeqAt.EqAt A s its.toArray[j] its2.toArray[j] (eqV (xs.getD j .non) (ys.getD j .non)) := by
  have j1 : j < xs.length := by rw [r.length]; simpa using h1
  have j2 : j < ys.length := by rw [r2.length]; simpa using h2
  obtain ⟨u1, e1, q1⟩ := r.get (i := j) (x := xs[j]) (by simp [j1])
  obtain ⟨u2, e2, q2⟩ := r2.get (i := j) (x := ys[j]) (by simp [j2])
  have z1 : its.toArray[j] = u1 := by
    have := e1
    rw [List.getElem?_eq_getElem (by simpa using h1)] at this
    simpa using Option.some.inj this
  have z2 : its2.toArray[j] = u2 := by
    have := e2
    rw [List.getElem?_eq_getElem (by simpa using h2)] at this
    simpa using Option.some.inj this
  have g1 : xs.getD j .non = xs[j] := by simp [List.getD, j1]
  have g2 : ys.getD j .non = ys[j] := by simp [List.getD, j2]
  rw [z1, z2, g1, g2]
  exact eqAt_V q1 q2 (List.all_eq_true.mp fx _ (List.getElem_mem j1)) (List.all_eq_true.mp fy _ (List.getElem_mem j2))
def rEqLF (K : PySem.W.Frag) (neg : Bool) : R2 := fun x y H Q => ∃ p q xs ys, x = .ref p ∧ y = .ref q ∧ SqL K H p xs ∧ SqL K H q ys ∧ xs.all flatV = true ∧ ys.all flatV = true ∧ Q (.bl (if neg then !eqVs xs ys else eqVs xs ys)) H
theorem op_eqLF {X : Cx} {K : PySem.W.Frag} (hK : X.K = K) (hu : X.A.units < cLine) : OpR X (compareOp .Eq) (rEqLF K false) := by
  subst hK
  intro pins s σ H x y v u Q I rx ry h
  obtain ⟨p, q, xs, ys, rfl, rfl, hx, hy, fx, fy, hq⟩ := h
  cases rx
  cases ry
  obtain ⟨its, r, pl, hz⟩ := I.list hx
  obtain ⟨its2, r2, pl2, hz2⟩ := I.list hy
  by_cases hl : xs.length = ys.length
  · refine SeqAt.eq_listAt (e := fun j => eqV (xs.getD j .non) (ys.getD j .non)) pl.isList pl2.isList (by rw [List.size_toArray, List.size_toArray, ← r.length, ← r2.length]; exact hl) hu (fun j h1 h2 => eqAt_items (X := X) r r2 fx fy j h1 h2) ?_
    rw [List.size_toArray, ← r.length, eqVs_len hl]
    exact ⟨.bl _, H, I, rfl, hq⟩
  · refine SeqAt.eq_list_lengthsAt pl.isList pl2.isList (by rw [List.size_toArray, List.size_toArray, ← r.length, ← r2.length]; simpa using hl) hu ?_
    rw [eqVs_ne hl] at hq
    exact ⟨.bl _, H, I, rfl, hq⟩
theorem op_neLF {X : Cx} {K : PySem.W.Frag} (hK : X.K = K) (hu : X.A.units < cLine) : OpR X (compareOp .NotEq) (rEqLF K true) := by
  subst hK
  intro pins s σ H x y v u Q I rx ry h
  obtain ⟨p, q, xs, ys, rfl, rfl, hx, hy, fx, fy, hq⟩ := h
  cases rx
  cases ry
  obtain ⟨its, r, pl, hz⟩ := I.list hx
  obtain ⟨its2, r2, pl2, hz2⟩ := I.list hy
  by_cases hl : xs.length = ys.length
  · refine SeqAt.RcNeAt.lists (e := fun j => eqV (xs.getD j .non) (ys.getD j .non)) pl.isList pl2.isList (by rw [List.size_toArray, List.size_toArray, ← r.length, ← r2.length]; exact hl) hu (fun j h1 h2 => eqAt_items (X := X) r r2 fx fy j h1 h2) _ _ _ _ ?_
    rw [List.size_toArray, ← r.length, eqVs_len hl]
    exact ⟨.bl _, H, I, rfl, hq⟩
  · refine SeqAt.RcNeAt.lists_lengths pl.isList pl2.isList (by rw [List.size_toArray, List.size_toArray, ← r.length, ← r2.length]; simpa using hl) hu _ _ _ _ ?_
    rw [eqVs_ne hl] at hq
    exact ⟨.bl _, H, I, rfl, hq⟩
end L2


set_option Elab.async false
set_option linter.all false
set_option maxRecDepth 100000
set_option maxHeartbeats 4000000
namespace L2
open PySem PySem.Spec PyProof.Rows PySem.W Builtin.Str
def Few (i : Int) : Prop := i.natAbs.log2 < 1048576
theorem few_of {ns : List Int} (h : WData.layableAll [WData.list (ns.map WData.int)] = true) : ∀ i ∈ ns, Few i := by
  intro i hi
  have h1 := layableW_arg h _ (List.mem_singleton.mpr rfl)
  have h2 := layableW_item h1 (WData.int i) (List.mem_map.mpr ⟨i, hi, rfl⟩)
  have h3 := (layableW_iff.mp h2).2.2
  unfold Few
  have e : (WData.int i).weight = if i == 0 then 0 else i.natAbs.log2 + 1 := by simp only [WData.weight]
  rw [e] at h3
  by_cases z : i = 0
  · subst z
    decide
  · have : (i == 0) = false := by simpa using z
    rw [this] at h3
    simp only [Bool.false_eq_true, if_false] at h3
    have e2 : (2 : Nat) ^ 20 = 1048576 := by decide
    omega
theorem walk_ofB {l : PySem.W.OpenLaw} {n k : Nat} {q : Program} {loose : List Str} {XP : (Str → Option Value) → Heap → Prop} {YP : World → Heap → Prop} {d : DefRec} {K : Params → PySem.W.Frag} {CX : World → CXT} {sp : World → Sp} {x : Str}
    (hn : l.most = some n) (hn2 : n ≤ sizeLine) (hdf : d.params.defaults = []) (hr : Room k callerA)
    (hY : ∀ (w : World) (h : Heap), YP w h → (K w.params).In h)
    (F : ∀ (w : World) (mg : Str → Option Value) (fa : Addr) (h : Heap), (K w.params).In h → h.Ns mainGlobals mg → mg d.name = some (.ref fa) →
      ∃ fd : FuncData, (∀ (s : Shared) (u : Value), BindsTo s fd ⟨[u], []⟩ [(x, u)]) ∧
        ∀ base : Heap, (K w.params).In base → base.Ns mainGlobals mg → FnOk l.prog w (K w.params) mg base (CX w) k fa fd [x] (sp w))
    (hsp : ∀ (w : World) (H : Hp) (a : Addr) (ns : List Int), ns.length ≤ n → (∀ i ∈ ns, Few i) → Only H → SqL (K w.params) H a (ns.map V.int) → sp w [.ref a] H (fun v _ => v = .bl true) fun _ _ _ => False)
    (hCX : ∀ (w : World) (H : Hp) (s : Shared) (e : Value) (s' : Shared), CX w [] H s (fun _ _ _ => False) e s' → False) :
    PySem.W.WalkO q loose XP YP l.row.toRowW d [] (fun f vs => PySem.call f vs) := by
  intro w s₀ s₁ mg mb G Y fa o pm cd doc dV kV ho hd hcd hD hmg hg args vals as hpre hlay hrd hwl hlo
  obtain rfl : dV = .none := Dflts.none hD hdf
  obtain rfl : kV = .none := Dflts.noKw hD
  obtain ⟨a, vs, ns, rfl, rfl, hobj, hints, hlen⟩ := Att.script_of hn hpre hwl
  have few := few_of hlay
  have KX := hY w _ Y
  obtain ⟨fd, hb, hF⟩ := F w mg fa _ KX G.T.g hmg
  refine enter_call (codeAny_mono (law_call KX G.T.g G.T.b G.T.builtins G.T.nolimit hg hobj hints (Nat.le_trans hlen hn2) hr hF hb (fun H hO hS => hsp w H a ns hlen few hO hS) fun H e s' => hCX w H s₁ e s') fun r s' hq => ?_)
  obtain ⟨rfl, h2, h3, h4⟩ := hq
  exact ⟨.inl ⟨.bool true, .bool true, [], rfl, fun _ => rfl, .bool true, Att.post_true l _, fun _ => ⟨List.Pairwise.nil, fun _ hm => (nomatch hm)⟩⟩, h2, h3, h4⟩
theorem log_lt {n m : Nat} (h : n < 2 ^ m) (h0 : 0 < m) : n.log2 < m := by
  rcases Nat.eq_zero_or_pos n with e | p
  · subst e
    rw [show Nat.log2 0 = 0 by decide]
    exact h0
  · exact (Nat.log2_lt (Nat.ne_of_gt p)).mpr h
theorem bits_le {i : Int} {m : Nat} (h : i.natAbs < 2 ^ m) (h0 : 0 < m) : Builtin.Int.intBits i ≤ m := by
  unfold Builtin.Int.intBits
  split
  · exact Nat.zero_le _
  · have := log_lt h h0
    omega
def CMulF (i j : Int) : Prop := ∃ k : Nat, k ≤ 1048580 ∧ i.natAbs < 2 ^ k ∧ j.natAbs < 2 ^ k
theorem op_mulF {X : Cx} : OpR X (binaryOp .Mult) (rI CMulF fun i j => .int (i * j)) := opI fun i j _ _ _ _ _ hc q => mul_int q (by
  obtain ⟨k, hk, h1, h2⟩ := hc
  have a := bits_le (m := k + 1) (Nat.lt_of_lt_of_le h1 (Nat.pow_le_pow_right (by decide) (Nat.le_succ k))) (Nat.succ_pos k)
  have b := bits_le (m := k + 1) (Nat.lt_of_lt_of_le h2 (Nat.pow_le_pow_right (by decide) (Nat.le_succ k))) (Nat.succ_pos k)
  unfold IntMulOk
  have z : Builtin.Int.intTooBig (Builtin.Int.intBits i + Builtin.Int.intBits j) = false := by
    unfold Builtin.Int.intTooBig
    refine decide_eq_false ?_
    have e : ((bitsLine : Nat) : Int) = 134217728 := by decide +kernel
    rw [e]
    omega
  rw [z, Bool.and_false]
  exact Bool.false_ne_true)
end L2


set_option Elab.async false
set_option linter.all false
set_option maxRecDepth 100000
set_option maxHeartbeats 4000000
namespace L2
open PySem PySem.Spec PyProof.Rows
theorem noFree {X : Cx} {names : List (Str × NameKind)} (h : names.all (fun y => y.2 != .free) = true) : ∀ y ∈ names, y.2 = .free → X.env.kindOf y.1 = some .cell ∨ X.env.kindOf y.1 = some .free := fun y hy hf => by
  have := List.all_eq_true.mp h y hy
  rw [hf] at this
  exact absurd this (by decide)
theorem visC {X : Cx} {scope : Scope} (st : Stmt) (h : ∀ y ∈ scope.names, y.2 = .free → (defScope st).names.lookup y.1 = some .cell) (he : X.env.scope = defScope st := by rfl) : ∀ y ∈ scope.names, y.2 = .free → X.env.kindOf y.1 = some .cell ∨ X.env.kindOf y.1 = some .free := fun y hy hf => by
  refine .inl ?_
  show X.env.scope.names.lookup y.1 = some .cell
  rw [he]
  exact h y hy hf
theorem frees_of {X : Cx} {scope : Scope} (ts : List Str) (fs : List (Str × Nat)) (N0 : List Str) (h : ∀ p ∈ fs, scope.names.lookup p.1 = some .free ∧ N0[p.2]? = some p.1) (hN : X.N = N0 := by rfl) :
    Frees X scope (ts ++ fs.map (·.1)) (fun σ => ts.map (fun _ => none) ++ fs.map fun p => (σ[p.2]?).join) where
  len := fun σ => by simp
  at_ := fun σ i y v e1 e2 => by
    by_cases hi : i < ts.length
    · rw [List.getElem?_append_left (by simpa using hi), List.getElem?_map, List.getElem?_eq_getElem hi] at e2
      cases e2
    · rw [List.getElem?_append_right (by simpa using hi), List.getElem?_map] at e1 e2
      rw [List.length_map] at e2
      cases q : fs[i - ts.length]? with
      | none => rw [q] at e1; cases e1
      | some p =>
        rw [q] at e1 e2
        have e1' : p.1 = y := Option.some.inj e1
        have e2' : (σ[p.2]?).join = some v := Option.some.inj e2
        subst e1'
        obtain ⟨a, b⟩ := h p (List.mem_of_getElem? q)
        refine ⟨a, p.2, by rw [hN]; exact b, ?_⟩
        cases z : σ[p.2]? with
        | none => rw [z] at e2'; cases e2'
        | some o =>
          rw [z] at e2'
          have : o = some v := e2'
          rw [this]
theorem relab_other {env : Env} : ∀ {names : List (Str × NameKind)} {x : Str} {k : NameKind}, k ≠ .free → names.lookup x = some k →
    (names.map fun (n, k) => if (k == NameKind.free && env.scope.kind == .function && env.kindOf n == some .cell) then (n, NameKind.cell) else (n, k)).lookup x = some k
  | [], _, _, _, h => by cases h
  | (n, k') :: r, x, k, hk, h => by
    have ih := @relab_other env r x k hk
    show List.lookup x ((if (k' == NameKind.free && env.scope.kind == .function && env.kindOf n == some .cell) = true then (n, NameKind.cell) else (n, k')) :: _) = some k
    rw [List.lookup_cons] at h
    by_cases hx : (x == n) = true
    · rw [hx] at h
      have e : k' = k := Option.some.inj h
      subst e
      rw [if_neg, List.lookup_cons, hx]
      intro c
      simp only [Bool.and_eq_true, beq_iff_eq] at c
      exact hk c.1.1
    · have hx' : (x == n) = false := by simpa using hx
      rw [hx'] at h
      split
      · rw [List.lookup_cons, hx']; exact ih h
      · rw [List.lookup_cons, hx']; exact ih h
section
variable {X : Cx} {N : List Str} {scope : Scope} {cl : List (Str × Addr)} {C : Addr} {s : Shared} {H : Hp} {fp : List Addr} {pins : List (Addr × Obj)} {x : Str}
theorem c_loc (h : scope.names.lookup x = some .local) : (cxComp X N scope cl C s H fp pins).env.scope.names.lookup x = some .local := relab_other (by decide) h
theorem c_vloc (h : scope.names.lookup x = some .local) : Vis (cxComp X N scope cl C s H fp pins).env.scope x := .inl (c_loc h)
theorem c_free (h : scope.names.lookup x = some .free) : Vis (cxComp X N scope cl C s H fp pins).env.scope x := .inr (relabel_free h)
theorem c_gl (h : scope.names.lookup x = some .globalImplicit) : Gl (cxComp X N scope cl C s H fp pins) x := relab_other (by decide) h
end
section
variable {X : Cx} {es : List Expr} {te : TE} {t : TA}
theorem pa_BoolOp {a : BoolOp} {b : List Expr} {c : Pos} (ha : PE X (.BoolOp a b c) te) (hr : PA X es t) : PA X ((.BoolOp a b c) :: es) (tCons te t) := pa_cons ha hr rfl
theorem pa_BinOp {a b : Expr} {o : Operator} {c : Pos} (ha : PE X (.BinOp a o b c) te) (hr : PA X es t) : PA X ((.BinOp a o b c) :: es) (tCons te t) := pa_cons ha hr rfl
theorem pa_ListComp {a : Expr} {b : List Comprehension} {d : Scope} {c : Pos} (ha : PE X (.ListComp a b d c) te) (hr : PA X es t) : PA X ((.ListComp a b d c) :: es) (tCons te t) := pa_cons ha hr rfl
theorem pa_Call {a : Expr} {b : List Expr} {d : List Keyword} {c : Pos} (ha : PE X (.Call a b d c) te) (hr : PA X es t) : PA X ((.Call a b d c) :: es) (tCons te t) := pa_cons ha hr rfl
theorem pa_Constant {a : Const} {b : Nat} {c : Pos} (ha : PE X (.Constant a b c) te) (hr : PA X es t) : PA X ((.Constant a b c) :: es) (tCons te t) := pa_cons ha hr rfl
theorem pa_Subscript {a b : Expr} {c : Pos} (ha : PE X (.Subscript a b c) te) (hr : PA X es t) : PA X ((.Subscript a b c) :: es) (tCons te t) := pa_cons ha hr rfl
theorem pa_Name {a : Str} {c : Pos} (ha : PE X (.Name a c) te) (hr : PA X es t) : PA X ((.Name a c) :: es) (tCons te t) := pa_cons ha hr rfl
theorem pa_Tuple {b : List Expr} {a : Nat} {c : Pos} (ha : PE X (.Tuple b a c) te) (hr : PA X es t) : PA X ((.Tuple b a c) :: es) (tCons te t) := pa_cons ha hr rfl
end
end L2


set_option Elab.async false
set_option linter.all false
set_option maxRecDepth 100000
set_option maxHeartbeats 4000000
namespace L2
open PySem PySem.Spec PyProof.Rows
def Tells (t : TT) (σ : St) (H : Hp) (b : Bool) : Prop := ∀ R : Bool → Hp → Prop, (∀ H', Same H H' → R b H') → t σ H R
theorem Tells.or {tA tB : TT} {σ : St} {H : Hp} {a b : Bool} (hA : Tells tA σ H a) (hB : a = false → ∀ H', Same H H' → Tells tB σ H' b) : Tells (tOr tA tB) σ H (a || b) := by
  intro R h
  refine hA _ fun H1 s1 => ?_
  cases a with
  | true => exact h H1 s1
  | false =>
    rw [if_neg (by decide)]
    exact hB rfl H1 s1 _ fun H2 s2 => h H2 (s1.trans s2)
theorem ifS_by {c : TT} {t u : TS} {D : Ends} {σ : St} {H : Hp} {b : Bool} (hc : Tells c σ H b) (h1 : b = true → ∀ H', Same H H' → t D σ H') (h0 : b = false → ∀ H', Same H H' → u D σ H') : tIfS c t u D σ H := by
  refine hc _ fun H' s => ?_
  cases b with
  | true => exact h1 rfl H' s
  | false => exact h0 rfl H' s
theorem ifE_by {c : TT} {t u : TE} {Q : VK} {σ : St} {H : Hp} {b : Bool} (hc : Tells c σ H b) (h1 : b = true → ∀ H', Same H H' → t σ H' Q) (h0 : b = false → ∀ H', Same H H' → u σ H' Q) : tIf c t u σ H Q := by
  refine hc _ fun H' s => ?_
  cases b with
  | true => exact h1 rfl H' s
  | false => exact h0 rfl H' s
theorem same_upd {H H' : Hp} {p : Addr} {o : HO} (s : Same H H') (h : H p = none) : Same H (upd H' p o) := fun b u e => by
  rw [upd_ne (ne_of_none e h)]
  exact s b u e
end L2


set_option Elab.async false
set_option linter.all false
set_option maxRecDepth 100000
set_option maxHeartbeats 4000000
namespace L2
open PySem PySem.Spec PyProof.Rows
theorem ps_setc {X : Cx} {i0 : Nat} {xn : Str} {pos' spos : Pos} {elt tg iter : Expr} {ifs : List Expr} {scope : Scope} {pos : Pos} {N : List Str} {σ0 : St → St} {wi : TI} {g : TG} {ti : TT} {te : TE}
    (hN0 : X.N.Nodup) (hi0 : X.N[i0]? = some xn) (hx0 : X.env.scope.names.lookup xn = some .local) (hc : X.calm = true) (hF : Frees X scope N σ0) (hvis : ∀ y ∈ scope.names, y.2 = .free → X.env.kindOf y.1 = some .cell ∨ X.env.kindOf y.1 = some .free)
    (hcell : ∀ y ∈ scope.names, y.2 ≠ .cell) (hkind : scope.kind = .function) (hnames : ∀ y ∈ scope.names, y.2 = .local → scope.names.lookup y.1 = some .local) (hfl : ∀ y, scope.names.lookup y = some .free → (y, NameKind.free) ∈ scope.names)
    (hi : PI X tg iter wi) (hg : ∀ cl C s H fp pins, PG (cxComp X N scope cl C s H fp pins) tg g) (ht : ∀ cl C s H fp pins, PIf (cxComp X N scope cl C s H fp pins) ifs ti) (he : ∀ cl C s H fp pins, PE (cxComp X N scope cl C s H fp pins) elt te)
    (hs : ∀ x, foldedSetIterable iter X.env x = pure x := by intro _; rfl) (hsw : swapsWith (.ListComp elt [⟨tg, iter, ifs, 0⟩] scope pos) (some (.Name xn pos')) spos.line X.env = pure true := by rfl) : PS X (.Assign [.Name xn pos'] (.ListComp elt [⟨tg, iter, ifs, 0⟩] scope pos) spos) (tAsg (tComp wi σ0 g ti te) (gName i0)) := by
  intro pins s σ H D0 I h
  have h : tComp wi σ0 g ti te σ H (fun x H1 => D0.nx (σ.set i0 (some x)) H1) := h
  rw [exec_Assign_Name_used _ _ _ _ hsw]
  refine wpAny_bind (wpAny_standAt (wpAny_bind ?_))
  show wpAny _ X.A (do let _ ← comprehension (.ListComp elt [⟨tg, iter, ifs, 0⟩] scope pos) scope X.env _ (newList []) false (eval iter X.env) (some (assign (.Name xn pos') X.env))) _ _ s
  obtain ⟨cl, hclos, hsub, hhas⟩ := closureFor_of (scope := scope) (env := X.env) fun y hy hf => I.ok.has y.1 (hvis y hy hf)
  refine wpAny_bind (wpAny_mono (wpAny_comprehension_free (use := some (assign (.Name xn pos') X.env)) (Q := fun _ s' => SP X pins D0 .next s') rfl hs hclos hkind hnames (thn (hi pins s σ H _ I h) fun v s1 h1 => thn h1 fun itv s2 h2 => ?_)) (fun _ s' hq => wpAny_pure (wpAny_pure hq)) fun _ _ e => e)
  obtain ⟨it, fp, tn, J, H2, e, I2, T, st2, f2, q2⟩ := h2
  subst e
  refine wpAny_newObj_type (wpAny_newFunctionEnv hcell (by intro y hy; simp at hy) (fun h₁ hns₁ hsb₁ => ?_) hkind)
  dsimp only at hns₁ hsb₁ ⊢
  generalize hH2 : s2.heap.push { cls := .type "list", dict := none, data := .seq ([] : List Value).toArray } = G2 at hns₁ hsb₁ ⊢
  have hC : G2.objs.size = s2.heap.objs.size + 1 := by rw [← hH2, Heap.size_push]
  have hDC : s2.heap.objs.size ≠ G2.objs.size := by rw [hC]; exact Nat.ne_of_lt (Nat.lt_succ_self _)
  have below : ∀ b, b < s2.heap.objs.size → b ≠ G2.objs.size ∧ b ≠ s2.heap.objs.size := fun b hb => ⟨by rw [hC]; exact Nat.ne_of_lt (Nat.lt_succ_of_lt hb), Nat.ne_of_lt hb⟩
  have old : ∀ b o, s2.heap.get? b = some o → h₁.get? b = some o := fun b o e => hsb₁.extBut b o (below b (Heap.lt_size e)).1 (Heap.get?_push_of_some _ (hH2 ▸ Heap.get?_push_of_some _ e))
  have hD : h₁.get? s2.heap.objs.size = some { cls := .type "list", dict := none, data := .seq ([] : List Value).toArray } := hsb₁.extBut _ _ hDC (Heap.get?_push_of_some _ (hH2 ▸ Heap.get?_push_size _ rfl))
  have nD : H2 s2.heap.objs.size = none := I2.hok.fresh (Nat.le_refl _)
  have nC : H2 G2.objs.size = none := I2.hok.fresh (by rw [hC]; exact Nat.le_succ _)
  have fpl : ∀ b ∈ fp, b < s2.heap.objs.size := fun b hb => by
    obtain ⟨o, e, _⟩ := T.obj _ _ st2 b hb
    exact Heap.lt_size e
  have cells : ∀ y c, cl.lookup y = some c → ∃ v, s2.heap.IsCell c v := fun y c e => I2.cell y c (hsub y c e)
  have cellLt : ∀ y c, cl.lookup y = some c → c < s2.heap.objs.size := fun y c e => by
    obtain ⟨v, o, ho, _⟩ := cells y c e
    exact Heap.lt_size ho
  have stkNo : ∀ b, b ≠ X.env.locals → b ∉ X.fs → b ∉ frs X.stack := fun b n1 n2 z => by
    rcases List.mem_cons.mp (I2.stkSub b z) with r | r
    · exact n1 r
    · exact n2 r
  obtain ⟨W, ⟨m0, w0⟩, turn⟩ := q2 s2.heap.objs.size nD
  have ok : (cxComp X N scope cl G2.objs.size s2 H2 fp pins).Ok := by
    refine ⟨I2.ok.mod, hkind, I2.ok.glob, I2.ok.blt, (by show s2.heap.objs.size ≤ G2.objs.size; rw [hC]; exact Nat.le_succ _), fun x y c a b => I2.ok.inj x y c (hsub x c a) (hsub y c b), fun x hx => ?_, fun x c a => (nomatch a), I2.ok.hd, I2.ok.frames, .inl rfl, fun b hb => ⟨(below b (fpl b hb)).1, fun x c e => ?_⟩, I2.bs, Nat.le_trans I2.ok.bsz I2.sz, fun b o e hb => ?_, fun b hb => stkNo b (f2 b hb).2.1 (f2 b hb).2.2.1, I2.stack, I2.stkFree⟩
    · have hx' : scope.names.lookup x = some .free := by
        rcases hx with z | z
        · exact relabel_lookup hcell (.inl rfl) z
        · exact relabel_lookup hcell (.inr rfl) z
      exact hhas _ (hfl x hx') rfl
    · exact (f2 b hb).2.2.2.2.1 x c (hsub x c e)
    · rcases (f2 b hb).2.2.2.1 with z | z
      · exact I2.ok.noex b o e z
      · exact absurd (Nat.lt_of_lt_of_le (Heap.lt_size e) (Nat.le_trans I2.ok.bsz z)) (Nat.lt_irrefl _)
  have inv0 : Inv (cxComp X N scope cl G2.objs.size s2 H2 fp pins) [] (σ0 σ) (upd H2 s2.heap.objs.size (.lst [])) { s2 with heap := h₁, toks := s2.toks + ([] : List (Str × Value)).length } := by
    refine ⟨ok, rfl, I2.bare, Un.laid old (Nat.le_refl _) nD, ⟨_, hns₁, fun i y v e1 e2 e3 => ?_⟩, fun y c e => ?_, ?_, fun y c e => ?_, fun p hp => ?_, ?_, hF.len σ⟩
    · obtain ⟨hfr, j, hj, hv⟩ := hF.at_ σ i y v e1 e2
      have hk := hvis _ (hfl y hfr) rfl
      obtain ⟨m, hn, hl⟩ := I2.loc
      obtain ⟨u, r, l⟩ := hl j y v hj hv (.inr (hk.elim .inl .inr))
      refine ⟨u, r, .inr ⟨relabel_free hfr, ?_⟩⟩
      rcases l with ⟨k1, _⟩ | ⟨_, c, hc, hcell⟩
      · rcases hk with z | z
        · rw [k1] at z; cases z
        · rw [k1] at z; cases z
      · obtain ⟨c', hc'⟩ := hhas _ (hfl y hfr) rfl
        have : c' = c := Option.some.inj ((hsub _ _ hc').symm.trans hc)
        subst this
        refine ⟨c', hc', ?_⟩
        obtain ⟨o, ho, hd⟩ := hcell
        exact ⟨o, old _ _ ho, hd⟩
    · obtain ⟨v, o, ho, hd⟩ := cells y c e
      exact ⟨v, o, old _ _ ho, hd⟩
    · show upd H2 s2.heap.objs.size (.lst []) G2.objs.size = none
      rw [upd_ne (Ne.symm hDC)]; exact nC
    · show upd H2 s2.heap.objs.size (.lst []) c = none
      rw [upd_ne (below c (cellLt y c e)).2]; exact I2.freeC y c (hsub y c e)
    · have hp' : p ∈ X.pn ++ pins := by simpa [cxComp] using hp
      obtain ⟨e, n, ne, nf, d⟩ := I2.pin p hp'
      refine ⟨old _ _ e, ?_, (below _ (Heap.lt_size e)).1, stkNo _ ne nf, d⟩
      rw [upd_ne (below _ (Heap.lt_size e)).2]; exact n
    · exact I2.hok.laid old (Nat.le_refl _) ⟨Nat.zero_le _, [], 0, .nil, hD⟩
  have tn0 : tn 0 h₁ := T.keep 0 _ _ st2 fun b _ o e => old b o e
  have stat : ∀ {H' : Hp}, (∀ b ∈ fp, H' b = none) → ∀ b ∈ fp, FpOk (cxComp X N scope cl G2.objs.size s2 H2 fp pins) [] H' b := fun hn b hb =>
    ⟨hn b hb, (below b (fpl b hb)).1, stkNo b (f2 b hb).2.1 (f2 b hb).2.2.1, .inl hb, fun x c e => (f2 b hb).2.2.2.2.1 x c (hsub x c e), fun p hp => (f2 b hb).2.2.2.2.2 p (by simpa [cxComp] using hp)⟩
  have loop : codeAny (model X.prog X.w) X.A (.compLoop (.ListComp elt [⟨tg, iter, ifs, 0⟩] scope pos) 0 (.ref it) (.ref s2.heap.objs.size) (compEnvC scope cl G2.objs.size X.env))
      (compPost (model X.prog X.w) X.A X.xe (some (assign (.Name xn pos') X.env)) (fun _ s' => SP X pins D0 .next s') (.ref s2.heap.objs.size) G2.objs.size) { s2 with heap := h₁, toks := s2.toks + ([] : List (Str × Value)).length } := by
    refine compLoop_gen (fun n s' => ∃ i σ' H', Inv (cxComp X N scope cl G2.objs.size s2 H2 fp pins) [] σ' H' s' ∧ tn i s'.heap ∧ (∀ b ∈ fp, H' b = none) ∧ W i n σ' H') ?_ m0
      ⟨0, σ0 σ, _, inv0, tn0, fun b hb => by rw [upd_ne (below b (fpl b hb)).2]; exact (f2 b hb).1, w0⟩
    rintro n s3 ⟨i, σ3, H3, I3, st3, fr3, w3⟩
    have no : ∀ {α : Type} {t : Sem α} {Q' : α → Shared → Prop} {E' : Value → Shared → Prop} {s' : Shared}, wpAny (model X.prog X.w) X.A t Q' (fun _ _ => False) s' → wpAny (model X.prog X.w) X.A t Q' E' s' := fun h => wpAny_mono h (fun _ _ z => z) fun _ _ z => False.elim z
    rcases turn i n σ3 H3 w3 with ⟨stop, qn⟩ | ⟨go, step⟩
    · refine no (thn (T.done (cxComp X N scope cl G2.objs.size s2 H2 fp pins) rfl rfl rfl hc i [] s3 σ3 H3 _ I3 (stat fr3) st3 stop) fun r s4 ⟨hr, I4⟩ => ?_)
      subst hr
      obtain ⟨m, hn, _⟩ := I4.loc
      have mk : ∀ h', Heap.SameBut G2.objs.size s4.heap h' → Inv X pins σ H3 { s4 with heap := h' } := by
        intro h' hs'
        have u : Un (frs X.stack) fp H2 H3 s2.heap h' := by
          have b0 : Un (frs X.stack) fp H2 H3 s2.heap s4.heap := I4.base
          have neC : ∀ b o, s2.heap.get? b = some o → b ≠ G2.objs.size := fun b o e => (below b (Heap.lt_size e)).1
          exact ⟨fun b o e n hb hx => (hs'.2 b (neC b o e)).trans (b0.keep b o e n hb hx), fun b o e n hb hx => by
            obtain ⟨sl, z⟩ := b0.slot b o e n hb hx
            exact ⟨sl, (hs'.2 b (neC b o e)).trans z⟩, b0.free, fun b o e hx => by
            obtain ⟨o', z⟩ := b0.there b o e hx
            exact ⟨o', (hs'.2 b (neC b o e)).trans z⟩, b0.tups, b0.frzs, b0.tbls⟩
        have hfreeC : H3 G2.objs.size = none := I4.free
        have hk : HOk X.prog X.w H3 h' := fun b ob e => by
          refine (I4.hok b ob e).stay (fun c w' hc q => (hs'.2 c ?_).trans q) (fun _ q => q) fun _ _ q => q
          rintro rfl
          rcases hc with z | z
          · rw [← z, hfreeC] at e; cases e
          · rw [hfreeC] at z; cases z
        have hos : s4.os = s2.os := I4.os
        have J4 : Inv X pins σ H3 { s4 with heap := h' } := I2.call' (s' := { s4 with heap := h' }) (ch := fp) hos u hk I4.bare fun b hb => ⟨(f2 b hb).2.2.2.1, (f2 b hb).2.1, (f2 b hb).2.2.2.2.1, (f2 b hb).2.2.2.2.2⟩
        exact J4
      have hfreeC : H3 G2.objs.size = none := I4.free
      have J := mk s4.heap ⟨rfl, fun _ _ => rfl⟩
      have cL : G2.objs.size ≠ X.env.locals := (below _ I2.lt).1.symm
      have cC : ∀ x c, X.env.cells.lookup x = some c → c ≠ G2.objs.size := fun x c e => by
        obtain ⟨v, o, ho, _⟩ := I2.cell x c e
        exact (below _ (Heap.lt_size ho)).1
      refine wpAny_assign_Name (store_ok2 J hN0 hi0 (.inl hx0) (v := .ref s2.heap.objs.size) rfl (fun s5 J5 ha => ?_) (.inr hx0))
      obtain ⟨a, sb, ha⟩ := ha
      have hac : a ≠ G2.objs.size := by
        rcases ha with z | z
        · rw [z]; exact cL.symm
        · exact cC xn a z
      refine ⟨m, hn.sameBut sb (Ne.symm hac), fun h'' hs'' => ?_⟩
      have ge : X.s₀.heap.objs.size ≤ G2.objs.size := by
        have := I2.sz
        rw [hC]
        exact Nat.le_trans this (Nat.le_succ _)
      have J6 : Inv X pins (σ.set i0 (some (.ref s2.heap.objs.size))) H3 { s5 with heap := h'' } := J5.turned (it := G2.objs.size) (t' := s5.toks) (fun b o hb e => (hs''.2 b hb).trans e) hfreeC cL (.inr ge) cC (fun p hp => (below _ (Heap.lt_size (I2.pin p hp).1)).1)
      exact ⟨_, H3, J6, qn⟩
    · refine no (thn (T.item (cxComp X N scope cl G2.objs.size s2 H2 fp pins) rfl rfl rfl hc i [] s3 σ3 H3 _ I3 (stat fr3) st3 go) fun r s4 ⟨u, hr, h4⟩ => ?_)
      subst hr
      refine no (thn h4 fun _ s5 ⟨x, H5, I5, r5, y5, st5, fr5⟩ => ?_)
      have I5' := I5.pinned (stat fr5) (T.obj _ _ st5)
      have again : ∀ {s7 : Shared} {σ7 : St} {H7 : Hp} {m' : Nat}, Inv (cxComp X N scope cl G2.objs.size s2 H2 fp pins) ([] ++ pinsAt fp s5.heap) σ7 H7 s7 → m' < n → W (i + 1) m' σ7 H7 → ∃ m, m < n ∧ ∃ i σ' H', Inv (cxComp X N scope cl G2.objs.size s2 H2 fp pins) [] σ' H' s7 ∧ tn i s7.heap ∧ (∀ b ∈ fp, H' b = none) ∧ W i m σ' H' := fun {s7 σ7 H7 m'} I7 hm w7 => by
        refine ⟨m', hm, i + 1, σ7, H7, I7.unpinned, T.keep _ _ _ st5 fun b hb o e => (I7.pin (b, o) (List.mem_append_right _ (List.mem_append_right _ (mem_pinsAt hb e)))).1, fun b hb => ?_, w7⟩
        obtain ⟨o, e, d⟩ := T.obj _ _ st5 b hb
        exact (I7.pin (b, o) (List.mem_append_right _ (List.mem_append_right _ (mem_pinsAt hb e)))).2.1
      refine no (thn (hg cl G2.objs.size s2 H2 fp pins _ s5 σ3 H5 x u _ I5' r5 (step x H5 y5)) fun _ s6 ⟨σ6, H6, I6, q6⟩ => ?_)
      refine no (thn (ht cl G2.objs.size s2 H2 fp pins _ s6 σ6 H6 _ I6 q6) fun b s7 ⟨H7, I7, q7⟩ => ?_)
      cases b with
      | false =>
        rw [if_neg (by decide)] at q7
        obtain ⟨m', hm, w7⟩ := q7
        exact again I7 hm w7
      | true =>
        rw [if_pos rfl] at q7
        refine no (thn (he cl G2.objs.size s2 H2 fp pins _ s7 σ6 H7 _ I7 q7) fun yv s8 ⟨y, H8, I8, r8, ys, hys, hz, m', hm, w8⟩ => ?_)
        refine no (thn (mt_append (X := cxComp X N scope cl G2.objs.size s2 H2 fp pins) _ s8 σ6 H8 (.ref s2.heap.objs.size) [y] _ [yv] (fun _ H9 => H9 = upd H8 s2.heap.objs.size (.lst (ys ++ [y]))) I8 rfl (.cons r8 .nil) ⟨_, ys, y, rfl, rfl, hys, hz, rfl⟩) fun _ s9 ⟨_, H9, I9, _, q9⟩ => ?_)
        subst q9
        exact again I9 hm w8
  exact codeAny_compStart_list loop (T.self X.A 0 _ _ _ tn0 loop)
end L2


set_option Elab.async false
set_option linter.all false
set_option maxRecDepth 100000
set_option maxHeartbeats 4000000
namespace L2
open PySem PySem.Spec PyProof.Rows
theorem Same.seqT {K : PySem.W.Frag} {H H' : Hp} {a : Addr} {xs : List V} (e : Same H H') (h : SqT K H a xs) : SqT K H' a xs := by
  rcases h with (h | ⟨o, h⟩) | h
  · exact .inl (.inl (e _ _ h))
  · exact .inl (.inr ⟨o, e _ _ h⟩)
  · exact .inr h
def Alike (K : PySem.W.Frag) (H : Hp) : Nat → V → V → Prop
  | 0, x, y => flatV x = true ∧ flatV y = true ∧ eqV x y = true
  | n + 1, x, y => (flatV x = true ∧ flatV y = true ∧ eqV x y = true) ∨
      ∃ p q xs ys, x = .ref p ∧ y = .ref q ∧ ((SqT K H p xs ∧ SqT K H q ys) ∨ (SqL K H p xs ∧ SqL K H q ys)) ∧ Paired (Alike K H n) xs ys
theorem Alike.flat {K : PySem.W.Frag} {H : Hp} {n : Nat} {x y : V} (a : flatV x = true) (b : flatV y = true) (c : eqV x y = true) : Alike K H n x y := by
  cases n with
  | zero => exact ⟨a, b, c⟩
  | succ n => exact .inl ⟨a, b, c⟩
theorem Alike.int {K : PySem.W.Frag} {H : Hp} {n : Nat} (i : Int) : Alike K H n (.int i) (.int i) := Alike.flat rfl rfl (beq_self_eq_true i)
theorem Alike.lst {K : PySem.W.Frag} {H : Hp} {n : Nat} {p q : Addr} {xs ys : List V} (a : SqL K H p xs) (b : SqL K H q ys) (c : Paired (Alike K H n) xs ys) : Alike K H (n + 1) (.ref p) (.ref q) := .inr ⟨p, q, xs, ys, rfl, rfl, .inr ⟨a, b⟩, c⟩
theorem pair_get {α β : Type} {F : α → β → Prop} : ∀ {xs : List α} {ys : List β}, Paired F xs ys → ∀ (j : Nat) (a : α) (b : β), xs[j]? = some a → ys[j]? = some b → F a b
  | _, _, .nil, _, _, _, h, _ => by cases h
  | x :: xs, y :: ys, .cons r t, j, a, b, h1, h2 => by
    cases j with
    | zero => cases h1; cases h2; exact r
    | succ j => exact pair_get t j a b (by simpa using h1) (by simpa using h2)
section
variable {X : Cx} {pins : List (Addr × Obj)} {σ : St} {H : Hp} {s : Shared}
theorem all_true (n : Nat) : (List.range n).all (fun _ => true) = true := List.all_eq_true.mpr fun _ _ => rfl
theorem items_alike {n : Nat} {A : Around} {xs ys : List V} {its its2 : List Value} (r : Vals xs its) (r2 : Vals ys its2) (pr : Paired (Alike X.K H n) xs ys)
    (ih : ∀ x y u v, Alike X.K H n x y → RelV x u → RelV y v → SeqAt.EqAt A s u v true) (j : Nat) (h1 : j < its.toArray.size) (h2 : j < its2.toArray.size) : SeqAt.EqAt A s its.toArray[j] its2.toArray[j] true := by
  have j1 : j < xs.length := by rw [r.length]; simpa using h1
  have j2 : j < ys.length := by rw [r2.length]; simpa using h2
  obtain ⟨u1, e1, q1⟩ := r.get (i := j) (x := xs[j]) (by simp [j1])
  obtain ⟨u2, e2, q2⟩ := r2.get (i := j) (x := ys[j]) (by simp [j2])
  have z1 : its.toArray[j] = u1 := by
    have := e1
    rw [List.getElem?_eq_getElem (by simpa using h1)] at this
    simpa using Option.some.inj this
  have z2 : its2.toArray[j] = u2 := by
    have := e2
    rw [List.getElem?_eq_getElem (by simpa using h2)] at this
    simpa using Option.some.inj this
  rw [z1, z2]
  exact ih _ _ _ _ (pair_get pr j _ _ (List.getElem?_eq_getElem j1) (List.getElem?_eq_getElem j2)) q1 q2
theorem eqAt_alike (I : Inv X pins σ H s) : ∀ (n : Nat) (A : Around) (x y : V) (u v : Value), A.units + n < cLine → Alike X.K H n x y → RelV x u → RelV y v → SeqAt.EqAt A s u v true
  | 0, A, x, y, u, v, _, h, rx, ry => by
    have := eqAt_V (A := A) (s := s) rx ry h.1 h.2.1
    rw [h.2.2] at this
    exact this
  | n + 1, A, x, y, u, v, hu, h, rx, ry => by
    rcases h with h | ⟨p, q, xs, ys, rfl, rfl, hq, pr⟩
    · have := eqAt_V (A := A) (s := s) rx ry h.1 h.2.1
      rw [h.2.2] at this
      exact this
    · cases (show u = Value.ref p from rx)
      cases (show v = Value.ref q from ry)
      by_cases hpq : p = q
      · subst hpq
        exact SeqAt.EqAt.same _
      · refine SeqAt.EqAt.of_refs hpq ?_
        have hl := pr.length
        have ih := fun x y u v => eqAt_alike I n A.in1 x y u v (by show A.units + 1 + n < cLine; omega)
        rcases hq with ⟨h1, h2⟩ | ⟨h1, h2⟩
        · obtain ⟨its, r, pl, _⟩ := I.tuple h1
          obtain ⟨its2, r2, pl2, _⟩ := I.tuple h2
          have := SeqAt.RcAt.tuples (A := A) (e := fun _ => true) (show s.heap.IsTuple p its.toArray from pl) (show s.heap.IsTuple q its2.toArray from pl2) (by omega) (fun j a b => items_alike r r2 pr ih j a b)
          rw [all_true, List.size_toArray, List.size_toArray, ← r.length, ← r2.length, hl, beq_self_eq_true] at this
          exact this
        · obtain ⟨its, r, pl, _⟩ := I.list h1
          obtain ⟨its2, r2, pl2, _⟩ := I.list h2
          have := SeqAt.RcAt.lists (A := A) (e := fun _ => true) pl.isList pl2.isList (by rw [List.size_toArray, List.size_toArray, ← r.length, ← r2.length, hl]) (by omega) (fun j a b => items_alike r r2 pr ih j a b)
          rw [all_true] at this
          exact this
end
def rAlike (K : PySem.W.Frag) (b : Bool) : R2 := fun x y H Q => ∃ p q xs ys, x = .ref p ∧ y = .ref q ∧ ((SqT K H p xs ∧ SqT K H q ys) ∨ (SqL K H p xs ∧ SqL K H q ys)) ∧ Paired (Alike K H 40) xs ys ∧ Q (.bl b) H
theorem op_neA {X : Cx} {K : PySem.W.Frag} (hK : X.K = K) (hu : X.A.units + 64 < cLine) : OpR X (compareOp .NotEq) (rAlike K false) := by
  subst hK
  intro pins s σ H x y v u Q I rx ry h
  obtain ⟨p, q, xs, ys, rfl, rfl, hq, pr, k⟩ := h
  cases rx
  cases ry
  have hl := pr.length
  have ih := fun x y u v => eqAt_alike I 40 X.A.in1 x y u v (by show X.A.units + 1 + 40 < cLine; omega)
  rcases hq with ⟨h1, h2⟩ | ⟨h1, h2⟩
  · obtain ⟨its, r, pl, _⟩ := I.tuple h1
    obtain ⟨its2, r2, pl2, _⟩ := I.tuple h2
    refine SeqAt.RcNeAt.tuples (e := fun _ => true) (show s.heap.IsTuple p its.toArray from pl) (show s.heap.IsTuple q its2.toArray from pl2) (by omega) (fun j a b => items_alike r r2 pr ih j a b) _ _ _ _ ?_
    rw [all_true, List.size_toArray, List.size_toArray, ← r.length, ← r2.length, hl, beq_self_eq_true]
    exact ⟨.bl _, H, I, rfl, k⟩
  · obtain ⟨its, r, pl, _⟩ := I.list h1
    obtain ⟨its2, r2, pl2, _⟩ := I.list h2
    refine SeqAt.RcNeAt.lists (e := fun _ => true) pl.isList pl2.isList (by rw [List.size_toArray, List.size_toArray, ← r.length, ← r2.length, hl]) (by omega) (fun j a b => items_alike r r2 pr ih j a b) _ _ _ _ ?_
    rw [all_true]
    exact ⟨.bl _, H, I, rfl, k⟩
end L2


set_option Elab.async false
set_option linter.all false
set_option maxRecDepth 100000
set_option maxHeartbeats 4000000
namespace Dt
open PySem PySem.Spec PyProof.Rows
section
variable {prog : Program} {w : World} {A : Around} {E : Value → Shared → Prop} {s : Shared}
end
section
variable {prog : Program} {w : World} {K : Type} [DecidableEq K] {knd : KeyKind prog w K} {A : Around} {E : Value → Shared → Prop} {s : Shared}
end
end Dt
namespace Dt
open PySem PySem.Spec PyProof.Rows
section
variable {prog : Program} {w : World} {K : Type} [DecidableEq K] {knd : KeyKind prog w K} {A : Around} {E : Value → Shared → Prop} {s : Shared}
end
end Dt


set_option Elab.async false
set_option linter.all false
set_option maxRecDepth 100000
set_option maxHeartbeats 4000000
namespace L2
open PySem PySem.Spec PyProof.Rows
section
variable {X : Cx} {pins : List (Addr × Obj)} {σ : St} {H : Hp} {s : Shared}
theorem Inv.adoptN {a : Addr} {o : HO} (I : Inv X pins σ H s) (hn : H a = none) (h0 : ∀ u, X.s₀.heap.get? a = some u → a ∉ X.ex → False) (hL : a ≠ X.env.locals) (hC : ∀ x c, X.env.cells.lookup x = some c → c ≠ a) (hp : ∀ p ∈ X.pn ++ pins, p.1 ≠ a) (ok : ObjOk X.prog X.w (upd H a o) s.heap a o) : Inv X pins σ (upd H a o) s := by
  refine ⟨I.ok, I.os, I.bare, ⟨I.base.keep, I.base.slot, fun b u e n hx => ?_, I.base.there, fun b xs q => ?_, fun b u xs q => ?_, fun b ps q => ?_⟩, I.loc, I.cell, ?_, fun x c e => ?_, fun p hp' => ?_, fun b u e => ?_, I.len⟩
  · rw [upd_ne (fun z => by rw [z] at e hx; exact h0 u e hx)]; exact I.base.free b u e n hx
  · have z := I.base.tups b xs q
    rw [upd_ne (ne_of_none z hn)]; exact z
  · have z := I.base.frzs b u xs q
    rw [upd_ne (ne_of_none z hn)]; exact z
  · obtain ⟨more, z⟩ := I.base.tbls b ps q
    exact ⟨more, by rw [upd_ne (ne_of_none z hn)]; exact z⟩
  · rw [upd_ne (Ne.symm hL)]; exact I.free
  · rw [upd_ne (hC x c e)]; exact I.freeC x c e
  · obtain ⟨e, n, ne, nf, d⟩ := I.pin p hp'
    exact ⟨e, by rw [upd_ne (hp p hp')]; exact n, ne, nf, d⟩
  · by_cases hb : b = a
    · subst hb; rw [upd_same] at e; cases e; exact ok
    · rw [upd_ne hb] at e
      exact (I.hok b u e).stay (fun c v _ q => q) (fun c q => by rw [upd_ne (ne_of_none q hn)]; exact q) fun c xs q => by rw [upd_ne (ne_of_none q hn)]; exact q
theorem Inv.later {a : Addr} {o : HO} {H1 : Hp} {s1 : Shared} (I : Inv X pins σ H s) (hB : s.heap.get? a = none) (J : Inv X pins σ H1 s1) (hn : H1 a = none) (ok : ObjOk X.prog X.w (upd H1 a o) s1.heap a o) : Inv X pins σ (upd H1 a o) s1 := by
  have nl : ∀ b u, s.heap.get? b = some u → b ≠ a := fun b u e z => by rw [z, hB] at e; cases e
  refine J.adoptN hn (fun u e hx => ?_) ?_ (fun x c e => ?_) (fun p hp => nl _ _ (I.pin p hp).1) ok
  · obtain ⟨o', e'⟩ := I.base.there a u e hx
    exact nl a o' e' rfl
  · obtain ⟨m, ⟨oL, es, ep, eL, _⟩, _⟩ := id I.loc
    exact Ne.symm (nl _ _ eL)
  · obtain ⟨v, oc, ec, _⟩ := I.cell x c e
    exact nl _ _ ec
end
end L2


set_option Elab.async false
set_option linter.all false
set_option maxRecDepth 100000
set_option maxHeartbeats 4000000
namespace Srt
open PySem PySem.W PyProof.Rows
section
variable {key : Nat → Int} {n : Nat}
variable (hk : ∀ i j, i < n → j < n → key i = key j → i = j)
include hk
end
end Srt


set_option Elab.async false
set_option linter.all false
set_option maxRecDepth 100000
set_option maxHeartbeats 4000000
namespace Dt
open PySem PySem.W PySem.Spec PyProof.Rows
section
variable {prog : Program} {w : World} {A : Around} {E : Value → Shared → Prop} {s : Shared}
end
section
variable {prog : Program} {w : World} {K : Type} [DecidableEq K] {knd : KeyKind prog w K} {A : Around} {E : Value → Shared → Prop} {s : Shared}
end
end Dt
namespace L2
open PySem PySem.Spec PyProof.Rows
end L2


set_option Elab.async false
set_option linter.all false
set_option maxRecDepth 100000
set_option maxHeartbeats 4000000
namespace Dt
open PySem PySem.Spec PyProof.Rows
open AutoSeq1 (wpAny_loadPart')
section
variable {prog : Program} {w : World} {A : Around} {E : Value → Shared → Prop} {s : Shared}
theorem next_tuple {it t : Addr} {i : Nat} {items : Array Value} {x : Value} {Q : Value → Shared → Prop} (hit : s.heap.IsTupleIter it t i) (ht : s.heap.IsTuple t items) (hx : items[i]? = some x)
    (hQ : ∀ h', h'.IsTupleIter it t (i + 1) → Heap.SameBut it s.heap h' → Q x { s with heap := h' }) : wpAny (model prog w) A (Builtin.SmallTypes.nextOf (.ref it)) Q E s := by
  obtain ⟨o, ho, hc, hd⟩ := id hit
  obtain ⟨ol, hol, _, nl, hdl⟩ := ht
  unfold Builtin.SmallTypes.nextOf
  refine wpAny_bind (wpAny_callSpecial?_slot (name := Str.ofString "__next__") hit.typeIs PySem.F.slot_tuple_iterator_next
    (wpAny_call_entry PySem.F.slot_tuple_iterator_next hit.typeIs PySem.F.entry_tuple_iterator_next ?_ (PySem.F.args_tuple_iterator_next_1 _)))
  show wpAny _ _ (field (.ref it) 0 >>= _) _ _ s
  refine wpAny_bind (wpAny_field ho hd (x := .ref t) rfl ?_)
  show wpAny _ _ (if (Value.ref t == Value.none) = true then _ else _) _ _ s
  rw [if_neg (show ¬ ((Value.ref t == Value.none) = true) from Bool.false_ne_true)]
  show wpAny _ _ (field (.ref it) 1 >>= _) _ _ s
  refine wpAny_bind (wpAny_field ho hd (x := .int i 0) rfl ?_)
  show wpAny _ _ (seqItems? (.ref t) >>= _) _ _ s
  refine wpAny_bind (wpAny_seqItems hol hdl ?_)
  simp only [Int.toNat_natCast, hx]
  refine wpAny_bind (wpAny_setField ho hd (by simp) (wpAny_pure ⟨x, rfl, wpAny_pure (hQ _ ?_ (Heap.SameBut.update ..))⟩))
  exact ⟨_, Heap.get?_update_self _ ho (Obj.isFreed_of_fields (Obj.data_mapFields hd _)), (Obj.cls_mapFields ..).trans hc, by
    rw [Obj.data_mapFields hd]; simp [rawInt]⟩
theorem next_tuple_end {it t : Addr} {i : Nat} {items : Array Value} {Q : Value → Shared → Prop} (hh : A.handled = none) (hit : s.heap.IsTupleIter it t i) (ht : s.heap.IsTuple t items) (hx : items[i]? = none)
    (hE : ∀ h' e, Heap.ExtBut it s.heap h' → (∃ o, h'.get? e = some o ∧ o.cls = .type "StopIteration") → E (.ref e) { s with heap := h' }) : wpAny (model prog w) A (Builtin.SmallTypes.nextOf (.ref it)) Q E s := by
  obtain ⟨o, ho, hc, hd⟩ := id hit
  obtain ⟨ol, hol, _, nl, hdl⟩ := ht
  unfold Builtin.SmallTypes.nextOf
  refine wpAny_bind (wpAny_callSpecial?_slot (name := Str.ofString "__next__") hit.typeIs PySem.F.slot_tuple_iterator_next
    (wpAny_call_entry PySem.F.slot_tuple_iterator_next hit.typeIs PySem.F.entry_tuple_iterator_next ?_ (PySem.F.args_tuple_iterator_next_1 _)))
  show wpAny _ _ (field (.ref it) 0 >>= _) _ _ s
  refine wpAny_bind (wpAny_field ho hd (x := .ref t) rfl ?_)
  show wpAny _ _ (if (Value.ref t == Value.none) = true then _ else _) _ _ s
  rw [if_neg (show ¬ ((Value.ref t == Value.none) = true) from Bool.false_ne_true)]
  show wpAny _ _ (field (.ref it) 1 >>= _) _ _ s
  refine wpAny_bind (wpAny_field ho hd (x := .int i 0) rfl ?_)
  show wpAny _ _ (seqItems? (.ref t) >>= _) _ _ s
  refine wpAny_bind (wpAny_seqItems hol hdl ?_)
  simp only [Int.toNat_natCast, hx]
  refine wpAny_bind (wpAny_rule (wpAny_bind (wpAny_setField ho hd (by simp) ?_)))
  show wpAny _ _ (newExc (.type "StopIteration") [] >>= _) _ _ _
  refine wpAny_bind ?_
  simp only [newExc, newTuple]
  refine wpAny_bind (wpAny_newObj_type ?_ (by size_fits))
  refine wpAny_bind (m := firstArgMember _ _) (wpAny_of_eq (a := Value.none) (by first | rfl | (simp only [firstArgMember]; rfl)) ?_)
  refine wpAny_newObj_type ?_ (by size_fits)
  unfold raiseNew
  refine wpAny_bind (wpAny_handled ?_)
  first | rw [show A.in1.handled = none from hh] | rw [hh]
  refine wpAny_bind (wpAny_pure (wpAny_throw ?_))
  exact hE _ _ (((Heap.SameBut.update ..).extBut.push _).push _) ⟨_, Heap.get?_push_size _ rfl, rfl⟩
end
end Dt
namespace L2
open PySem PySem.Spec PyProof.Rows
end L2


set_option Elab.async false
set_option linter.all false
set_option maxRecDepth 100000
set_option maxHeartbeats 4000000
namespace L2
open PySem PySem.Spec PyProof.Rows
def hid (D : Addr) (H : Hp) : Hp := fun b => if b = D then none else H b
theorem hid_ne {D b : Addr} {H : Hp} (h : b ≠ D) : hid D H b = H b := by unfold hid; rw [if_neg h]
theorem hid_at {D : Addr} {H : Hp} : hid D H D = none := by unfold hid; rw [if_pos rfl]
theorem hid_upd {D : Addr} {H : Hp} {o : HO} : hid D (upd H D o) = hid D H := by
  funext b
  unfold hid
  by_cases h : b = D
  · rw [if_pos h, if_pos h]
  · rw [if_neg h, if_neg h, upd_ne h]
theorem hid_none {D : Addr} {H : Hp} (h : H D = none) : hid D H = H := by
  funext b
  unfold hid
  by_cases e : b = D
  · rw [if_pos e, e, h]
  · rw [if_neg e]
theorem hid_le {D : Addr} {H : Hp} : Same (hid D H) H := fun b o e => by
  by_cases h : b = D
  · rw [h, hid_at] at e; cases e
  · rw [hid_ne h] at e; exact e
theorem hid_same {D : Addr} {H H' : Hp} (s : Same H H') : Same (hid D H) (hid D H') := fun b o e => by
  by_cases h : b = D
  · rw [h, hid_at] at e; cases e
  · rw [hid_ne h] at e ⊢; exact s b o e
theorem SqT.hid {K : PySem.W.Frag} {H : Hp} {D p : Addr} {xs ys : List V} (e : H D = some (.lst ys)) (h : SqT K H p xs) : SqT K (hid D H) p xs := by
  rcases h with (h | ⟨o, h⟩) | h
  · refine .inl (.inl ?_)
    rw [hid_ne (ne_of h e (fun z => nomatch z))]; exact h
  · refine .inl (.inr ⟨o, ?_⟩)
    rw [hid_ne (ne_of h e (fun z => nomatch z))]; exact h
  · exact .inr h
theorem tup_hid {H : Hp} {D p : Addr} {xs ys : List V} (e : H D = some (.lst ys)) (h : H p = some (.tup xs)) : hid D H p = some (.tup xs) := by
  rw [hid_ne (ne_of h e (fun z => nomatch z))]; exact h
theorem comp_same {J : It} {xs : List V} {g : TG} {ti : TT} {te : TE} {Fi : Hp → Prop} {σ1 : St} {H1 : Hp} {D : Addr} (hD : H1 D = none) (hz : xs.length < sizeLine)
    (hgo : ∀ (i : Nat) H', Same H1 H' → i < xs.length → J.go i H') (hst : ∀ H', Same H1 H' → J.stop xs.length H') (hy : ∀ (i : Nat) H' x H2, Same H1 H' → i < xs.length → J.yld i H' x H2 → H2 = H' ∧ xs[i]? = some x)
    (Pv : Nat → List V → St → Hp → Prop) (h0 : Pv 0 [] σ1 H1)
    (hs : ∀ i x ys σ H', xs[i]? = some x → Pv i ys σ (hid D H') → H' D = some (.lst ys) → Same H1 (hid D H') → ∀ (Ry : St → V → Hp → Prop) (Rn : St → Hp → Prop),
      (∀ σ2 y H5, Same H' H5 → Pv (i + 1) (ys ++ [y]) σ2 (hid D H5) → Ry σ2 y H5) → (∀ σ2 H4, Same H' H4 → Pv (i + 1) ys σ2 (hid D H4) → Rn σ2 H4) →
      g x σ H' fun σ2 H3 => ti σ2 H3 fun b H4 => if b = true then te σ2 H4 fun y H5 => Ry σ2 y H5 else Rn σ2 H4)
    (hd : ∀ ys σ H', Pv xs.length ys σ (hid D H') → H' D = some (.lst ys) → Same H1 (hid D H') → Fi H') :
    ∃ W : Nat → Nat → St → Hp → Prop, (∃ m, W 0 m σ1 (upd H1 D (.lst []))) ∧ ∀ i m σ' H', W i m σ' H' →
      (J.stop i H' ∧ Fi H') ∨ (J.go i H' ∧ ∀ x H2, J.yld i H' x H2 → g x σ' H2 fun σ2 H3 => ti σ2 H3 fun b H4 => if b = true then te σ2 H4 fun y H5 => ∃ ys, H5 D = some (.lst ys) ∧ ys.length < sizeLine ∧ ∃ m', m' < m ∧ W (i + 1) m' σ2 (upd H5 D (.lst (ys ++ [y])))
        else ∃ m', m' < m ∧ W (i + 1) m' σ2 H4) := by
  refine ⟨fun i m σ H' => m = xs.length - i ∧ i ≤ xs.length ∧ ∃ ys, ys.length ≤ i ∧ H' D = some (.lst ys) ∧ Same H1 (hid D H') ∧ Pv i ys σ (hid D H'), ⟨xs.length, by simp, Nat.zero_le _, [], Nat.le_refl _, upd_same, ?_, ?_⟩, ?_⟩
  · rw [hid_upd, hid_none hD]; exact fun _ _ e => e
  · rw [hid_upd, hid_none hD]; exact h0
  rintro i m σ H' ⟨rfl, hi, ys, hl, eD, sm, p⟩
  have sm' : Same H1 H' := fun b o e => hid_le b o (sm b o e)
  by_cases hlt : i < xs.length
  · refine .inr ⟨hgo i H' sm' hlt, fun x H2 y => ?_⟩
    obtain ⟨rfl, hx⟩ := hy i H' x H2 sm' hlt y
    refine hs i x ys σ H2 hx p eD sm _ _ (fun σ2 y H5 s5 p5 => ?_) (fun σ2 H4 s4 p4 => ?_)
    · refine ⟨ys, s5 _ _ eD, by omega, xs.length - (i + 1), by omega, rfl, hlt, ys ++ [y], by rw [List.length_append, List.length_singleton]; omega, upd_same, ?_, ?_⟩
      · rw [hid_upd]; exact fun b o e => hid_same s5 b o (sm b o e)
      · rw [hid_upd]; exact p5
    · exact ⟨xs.length - (i + 1), by omega, rfl, hlt, ys, by omega, s4 _ _ eD, fun b o e => hid_same s4 b o (sm b o e), p4⟩
  · have e : i = xs.length := by omega
    subst e
    exact .inl ⟨hst H' sm', hd ys σ H' p eD sm⟩
section
variable {K : PySem.W.Frag} {a : Addr} {xs : List V} {H1 : Hp}
theorem goL (h : SqL K H1 a xs) (i : Nat) (H' : Hp) (s : Same H1 H') (hi : i < xs.length) : (Itl K a).go i H' := ⟨xs, xs[i], s.seq h, List.getElem?_eq_getElem hi⟩
theorem stL (h : SqL K H1 a xs) (H' : Hp) (s : Same H1 H') : (Itl K a).stop xs.length H' := ⟨xs, s.seq h, Nat.le_refl _⟩
theorem yL (h : SqL K H1 a xs) (i : Nat) (H' : Hp) (x : V) (H2 : Hp) (s : Same H1 H') (_ : i < xs.length) (y : (Itl K a).yld i H' x H2) : H2 = H' ∧ xs[i]? = some x := ⟨y.1, y.2 xs (s.seq h)⟩
theorem goT (h : SqT K H1 a xs) (i : Nat) (H' : Hp) (s : Same H1 H') (hi : i < xs.length) : (Itt K a).go i H' := ⟨xs, xs[i], s.seqT h, List.getElem?_eq_getElem hi⟩
theorem stT (h : SqT K H1 a xs) (H' : Hp) (s : Same H1 H') : (Itt K a).stop xs.length H' := ⟨xs, s.seqT h, Nat.le_refl _⟩
theorem yT (h : SqT K H1 a xs) (i : Nat) (H' : Hp) (x : V) (H2 : Hp) (s : Same H1 H') (_ : i < xs.length) (y : (Itt K a).yld i H' x H2) : H2 = H' ∧ xs[i]? = some x := ⟨y.1, y.2 xs (s.seqT h)⟩
theorem goR {n : Nat} (i : Nat) (H' : Hp) (s : Same H1 H') (hi : i < ((List.range n).map fun (k : Nat) => V.int (0 + k)).length) : (Itr 0 n).go i H' := by
  show i < n
  simpa using hi
theorem stR {n : Nat} (H' : Hp) (s : Same H1 H') : (Itr 0 n).stop ((List.range n).map fun (k : Nat) => V.int (0 + k)).length H' := by
  show n ≤ _
  simp
theorem yR {n : Nat} (i : Nat) (H' : Hp) (x : V) (H2 : Hp) (s : Same H1 H') (hi : i < ((List.range n).map fun (k : Nat) => V.int (0 + k)).length) (y : (Itr 0 n).yld i H' x H2) : H2 = H' ∧ ((List.range n).map fun (k : Nat) => V.int (0 + k))[i]? = some x := ⟨y.1, by rw [List.getElem?_map, List.getElem?_range (by simpa using hi), y.2]; rfl⟩
end
theorem ix_tupK {X : Cx} {K : PySem.W.Frag} (hK : X.K = K) : IxR X (rIxT K) := hK ▸ ix_tup
theorem pgc2 {X : Cx} {N : List Str} {scope : Scope} {x y : Str} {px py pos : Pos} {k i j : Nat} (hc : X.calm = true) (hN : N.Nodup) (hi : N[i]? = some x) (hj : N[j]? = some y) (h1 : scope.names.lookup x = some .local) (h2 : scope.names.lookup y = some .local) :
    ∀ cl C s H fp pins, PG (cxComp X N scope cl C s H fp pins) (.Tuple [.Name x px, .Name y py] k pos) (gTup X.K 2 (gCons (gName i) (gCons (gName j) gNil))) := fun cl C s H fp pins =>
  pg_tup hc (pgs_cons (pg_name hN hi (Or.inl (c_loc h1)) (.inr (c_loc h1))) (pgs_cons (pg_name hN hj (Or.inl (c_loc h2)) (.inr (c_loc h2))) pgs_nil))
theorem call_isiTup {X : Cx} {K : PySem.W.Frag} (hK : X.K = K) : CallR X (.builtin "isinstance") (fun xs H Q => ∃ p ys, xs = [.ref p, .ty "tuple"] ∧ SqT K H p ys ∧ Q (.bl true) H) := by
  subst hK
  intro pins s σ H xs us Q I r h
  obtain ⟨p, ys, rfl, hq, q⟩ := h
  obtain ⟨u, v, rfl, rx, rc⟩ := vals2 r
  cases (show u = Value.ref p from rx)
  cases (show v = Value.type "tuple" from rc)
  obtain ⟨its, rv, ⟨o, h1, h2, _⟩, hz⟩ := I.tuple hq
  exact PySem.W.kia_one (b := true) PySem.W.kitx_tuple I.kIn ⟨o, h1, h2⟩ rfl (fun z => nomatch z) fun tk => ⟨.bl true, H, I.tok tk, rfl, q⟩
end L2


set_option Elab.async false
set_option linter.all false
set_option maxRecDepth 100000
set_option maxHeartbeats 4000000
namespace Dt
open PySem PySem.Spec PyProof.Rows
def ItK (k : Bool) (h : Heap) (it a : Addr) (i : Nat) : Prop := match k with | true => h.IsTupleIter it a i | false => h.IsListIter it a i
def RawK (k : Bool) (h : Heap) (a : Addr) (items : Array Value) : Prop := match k with | true => h.IsTuple a items | false => h.IsList a items
def itn (k : Bool) : String := match k with | true => "tuple_iterator" | false => "list_iterator"
theorem ItK.mk {k : Bool} {h : Heap} {it a : Addr} {i : Nat} (e : h.get? it = some { cls := .type (itn k), data := .fields #[.ref a, .int i 0] }) : ItK k h it a i := by
  cases k
  · exact ⟨_, e, rfl, rfl⟩
  · exact ⟨_, e, rfl, rfl⟩
theorem ItK.to {k : Bool} {h h' : Heap} {it a : Addr} {i : Nat} (x : ItK k h it a i) (f : ∀ o, h.get? it = some o → h'.get? it = some o) : ItK k h' it a i := by
  cases k
  · obtain ⟨o, e, r⟩ := x; exact ⟨o, f o e, r⟩
  · obtain ⟨o, e, r⟩ := x; exact ⟨o, f o e, r⟩
theorem RawK.to {k : Bool} {h h' : Heap} {a : Addr} {items : Array Value} (x : RawK k h a items) (f : ∀ o, h.get? a = some o → h'.get? a = some o) : RawK k h' a items := by
  cases k
  · obtain ⟨o, e, r⟩ := x; exact ⟨o, f o e, r⟩
  · obtain ⟨o, e, r⟩ := x; exact ⟨o, f o e, r⟩
theorem ItK.obj {k : Bool} {h : Heap} {it a : Addr} {i : Nat} (x : ItK k h it a i) : ∃ o, h.get? it = some o ∧ ∀ v, o.data ≠ .cell v := by
  cases k
  · obtain ⟨o, e, c, d⟩ := x; exact ⟨o, e, fun v z => by rw [d] at z; cases z⟩
  · obtain ⟨o, e, c, d⟩ := x; exact ⟨o, e, fun v z => by rw [d] at z; cases z⟩
theorem RawK.lt {k : Bool} {h : Heap} {a : Addr} {items : Array Value} (x : RawK k h a items) : a < h.objs.size := by
  cases k
  · obtain ⟨o, e, r⟩ := x; exact Heap.lt_size e
  · obtain ⟨o, e, r⟩ := x; exact Heap.lt_size e
section
variable {prog : Program} {w : World} {A : Around} {E : Value → Shared → Prop} {s : Shared}
theorem next_k {k : Bool} {it a : Addr} {i : Nat} {items : Array Value} {x : Value} {Q : Value → Shared → Prop} (hit : ItK k s.heap it a i) (ht : RawK k s.heap a items) (hx : items[i]? = some x)
    (hQ : ∀ h', ItK k h' it a (i + 1) → Heap.SameBut it s.heap h' → Q x { s with heap := h' }) : wpAny (model prog w) A (Builtin.SmallTypes.nextOf (.ref it)) Q E s := by
  cases k
  · exact wpAny_nextOf_list_item hit ht hx hQ
  · exact next_tuple hit ht hx hQ
theorem next_k_end {k : Bool} {it a : Addr} {i : Nat} {items : Array Value} {Q : Value → Shared → Prop} (hh : A.handled = none) (hit : ItK k s.heap it a i) (ht : RawK k s.heap a items) (hx : items[i]? = none)
    (hE : ∀ h' e, Heap.ExtBut it s.heap h' → (∃ o, h'.get? e = some o ∧ o.cls = .type "StopIteration") → E (.ref e) { s with heap := h' }) : wpAny (model prog w) A (Builtin.SmallTypes.nextOf (.ref it)) Q E s := by
  cases k
  · exact wpAny_nextOf_list_end hh hit ht hx hE
  · exact next_tuple_end hh hit ht hx hE
theorem zip_item {k1 k2 : Bool} {z TI TO i1 i2 l1 l2 : Addr} {n1 n2 : Nat} {xs ys : Array Value} {x y a b : Value} {Q : Value → Shared → Prop} (D : ZipApart z TI TO i1 i2 l1 l2)
    (hz : IsZip s.heap z TI TO .none) (hTI : IsPair s.heap TI (.ref i1) (.ref i2)) (hTO : IsPair s.heap TO a b)
    (h1 : ItK k1 s.heap i1 l1 n1) (h2 : ItK k2 s.heap i2 l2 n2) (hl1 : RawK k1 s.heap l1 xs) (hl2 : RawK k2 s.heap l2 ys) (hx : xs[n1]? = some x) (hy : ys[n2]? = some y)
    (hQ : ∀ h', IsZip h' z TI TO (rawInt s.heap.objs.size) → IsPair h' TO x y → ItK k1 h' i1 l1 (n1 + 1) → ItK k2 h' i2 l2 (n2 + 1) → IsPair h' s.heap.objs.size x y → h'.objs.size = s.heap.objs.size + 1 →
      (∀ c o, c ≠ z → c ≠ TO → c ≠ i1 → c ≠ i2 → s.heap.get? c = some o → h'.get? c = some o) → Q (.ref s.heap.objs.size) { s with heap := h' }) :
    wpAny (model prog w) A (Builtin.«zip.__next__» ⟨[.ref z], []⟩) (fun fin s' => ∃ v, fin = .done (.ret v) ∧ Q v s') E s := by
  show wpAny _ _ (field (.ref z) 2 >>= _) _ _ _
  refine wpAny_bind (wpAny_field hz rfl (x := .bool false) rfl ?_)
  show wpAny _ _ (field (.ref z) 3 >>= _) _ _ _
  refine wpAny_bind (wpAny_field hz rfl (x := .ref TI) rfl ?_)
  refine wpAny_bind (wpAny_seqItems hTI rfl ?_)
  show wpAny _ _ (Builtin.SmallTypes.ownedTupleIsFree (.ref z) >>= _) _ _ _
  refine wpAny_bind ?_
  unfold Builtin.SmallTypes.ownedTupleIsFree
  refine wpAny_bind (wpAny_field hz rfl (x := .none) rfl (wpAny_pure ?_))
  simp only [if_true]
  refine wpAny_bind (wpAny_rule ?_)
  refine wpAny_bind (wpAny_field hz rfl (x := .ref TO) rfl ?_)
  refine wpAny_bind (wpAny_setField_rec hz (by simp) fun h₁ hz₁ hs₁ => ?_)
  replace hz₁ : IsZip h₁ z TI TO .ellipsis := hz₁
  have m₁ : ∀ c o, c ≠ z → s.heap.get? c = some o → h₁.get? c = some o := fun c o n e => hs₁.extBut _ _ n e
  refine wpAny_bind ?_
  simp only [List.zipIdx_cons, List.zipIdx_nil, List.forIn_cons, List.forIn_nil]
  refine wpAny_bind (wpAny_bind (wpAny_onRaise ?_))
  show wpAny _ _ (Builtin.SmallTypes.nextOf (.ref i1) >>= _) _ _ _
  refine wpAny_bind (next_k (h1.to fun o => m₁ _ o D.i1z) (hl1.to fun o => m₁ _ o D.l1z) hx fun h₂ h1₂ hs₂ => wpAny_pure ?_)
  have m₂ : ∀ c o, c ≠ z → c ≠ i1 → s.heap.get? c = some o → h₂.get? c = some o := fun c o n n' e => hs₂.extBut _ _ n' (m₁ c o n e)
  have hTO₂ : IsPair h₂ TO a b := m₂ _ _ D.TOz D.TOi1 hTO
  refine wpAny_bind (wpAny_seqItems hTO₂ rfl ?_)
  refine wpAny_bind (wpAny_updateSeq_pair hTO₂ fun h₃ hTO₃ hs₃ => ?_)
  replace hTO₃ : IsPair h₃ TO x b := hTO₃
  have m₃ : ∀ c o, c ≠ z → c ≠ i1 → c ≠ TO → s.heap.get? c = some o → h₃.get? c = some o := fun c o n n' n'' e => hs₃.extBut _ _ n'' (m₂ c o n n' e)
  refine wpAny_bind (wpAny_letGo (wpAny_pure ?_))
  refine wpAny_bind (wpAny_bind (wpAny_onRaise ?_))
  show wpAny _ _ (Builtin.SmallTypes.nextOf (.ref i2) >>= _) _ _ _
  refine wpAny_bind (next_k (h2.to fun o => m₃ _ o D.i2z D.i12.symm D.TOi2.symm) (hl2.to fun o => m₃ _ o D.l2z D.l2i1 D.l2TO) hy fun h₄ h2₄ hs₄ => wpAny_pure ?_)
  have hTO₄ : IsPair h₄ TO x b := hs₄.extBut _ _ D.TOi2 hTO₃
  refine wpAny_bind (wpAny_seqItems hTO₄ rfl ?_)
  refine wpAny_bind (wpAny_updateSeq_pair hTO₄ fun h₅ hTO₅ hs₅ => ?_)
  replace hTO₅ : IsPair h₅ TO x y := hTO₅
  refine wpAny_bind (wpAny_letGo (wpAny_pure (wpAny_pure ?_)))
  refine wpAny_bind (wpAny_seqItems hTO₅ rfl ?_)
  refine wpAny_bind (wpAny_newTuple ?_)
  have hsz : h₅.objs.size = s.heap.objs.size := by rw [hs₅.1, hs₄.1, hs₃.1, hs₂.1, hs₁.1]
  have hz₅ : IsZip h₅ z TI TO .ellipsis := hs₅.extBut _ _ D.TOz.symm (hs₄.extBut _ _ D.i2z.symm (hs₃.extBut _ _ D.TOz.symm (hs₂.extBut _ _ D.i1z.symm hz₁)))
  have hk₅ : ∀ c o, c ≠ z → c ≠ TO → c ≠ i1 → c ≠ i2 → s.heap.get? c = some o → h₅.get? c = some o := fun c o c1 c2 c3 c4 e => hs₅.extBut _ _ c2 (hs₄.extBut _ _ c4 (m₃ c o c1 c3 c2 e))
  have h1₅ : ItK k1 h₅ i1 l1 (n1 + 1) := h1₂.to fun o e => hs₅.extBut _ _ D.TOi1.symm (hs₄.extBut _ _ D.i12 (hs₃.extBut _ _ D.TOi1.symm e))
  have h2₅ : ItK k2 h₅ i2 l2 (n2 + 1) := h2₄.to fun o e => hs₅.extBut _ _ D.TOi2.symm e
  have hzlt : z < h₅.objs.size := Heap.lt_size hz₅
  show wpAny _ _ (Builtin.SmallTypes.ownedTupleHandOut (.ref z) (.ref h₅.objs.size) >>= _) _ _ _
  refine wpAny_bind ?_
  unfold Builtin.SmallTypes.ownedTupleHandOut
  have hz₆ : IsZip (h₅.push { cls := .type "tuple", data := .seq #[x, y] }) z TI TO .ellipsis := Heap.get?_push_of_some _ hz₅
  refine wpAny_bind (wpAny_setField_rec hz₆ (by simp) fun h₇ hz₇ hs₇ => ?_)
  replace hz₇ : IsZip h₇ z TI TO (rawInt h₅.objs.size) := hz₇
  refine wpAny_setField_rec hz₇ (by simp) fun h₈ hz₈ hs₈ => ?_
  replace hz₈ : IsZip h₈ z TI TO (rawInt h₅.objs.size) := hz₈
  have up : ∀ c o, c ≠ z → h₅.get? c = some o → h₈.get? c = some o := fun c o c1 e => hs₈.extBut _ _ c1 (hs₇.extBut _ _ c1 (Heap.get?_push_of_some _ e))
  have hT₈ : IsPair h₈ h₅.objs.size x y := hs₈.extBut _ _ (Nat.ne_of_gt hzlt) (hs₇.extBut _ _ (Nat.ne_of_gt hzlt) (Heap.get?_push_size _ rfl))
  have hz8 : h₈.objs.size = h₅.objs.size + 1 := by rw [hs₈.1, hs₇.1, Heap.size_push]
  rw [hsz] at hz₈ hT₈ hz8
  refine wpAny_pure ⟨_, rfl, ?_⟩
  show Q (.ref h₅.objs.size) _
  rw [hsz]
  exact hQ h₈ hz₈ (up _ _ D.TOz hTO₅) (h1₅.to fun o e => up _ o D.i1z e) (h2₅.to fun o e => up _ o D.i2z e) hT₈ hz8 fun c o c1 c2 c3 c4 e => up c o c1 (hk₅ c o c1 c2 c3 c4 e)
theorem zip_end {k1 k2 : Bool} {z TI TO i1 i2 l1 l2 : Addr} {n1 n2 : Nat} {xs ys : Array Value} {a b : Value} {Q : Fin → Shared → Prop} (hh : A.handled = none) (D : ZipApart z TI TO i1 i2 l1 l2)
    (hz : IsZip s.heap z TI TO .none) (hTI : IsPair s.heap TI (.ref i1) (.ref i2)) (hTO : IsPair s.heap TO a b)
    (h1 : ItK k1 s.heap i1 l1 n1) (h2 : ItK k2 s.heap i2 l2 n2) (hl1 : RawK k1 s.heap l1 xs) (hl2 : RawK k2 s.heap l2 ys) (hend : xs[n1]? = none ∨ ys[n2]? = none)
    (hE : ∀ h' e, (∀ c o, c ≠ z → c ≠ TO → c ≠ i1 → c ≠ i2 → s.heap.get? c = some o → h'.get? c = some o) → (∃ o, h'.get? e = some o ∧ o.cls = .type "StopIteration") → E (.ref e) { s with heap := h' }) :
    wpAny (model prog w) A (Builtin.«zip.__next__» ⟨[.ref z], []⟩) Q E s := by
  show wpAny _ _ (field (.ref z) 2 >>= _) _ _ _
  refine wpAny_bind (wpAny_field hz rfl (x := .bool false) rfl ?_)
  show wpAny _ _ (field (.ref z) 3 >>= _) _ _ _
  refine wpAny_bind (wpAny_field hz rfl (x := .ref TI) rfl ?_)
  refine wpAny_bind (wpAny_seqItems hTI rfl ?_)
  show wpAny _ _ (Builtin.SmallTypes.ownedTupleIsFree (.ref z) >>= _) _ _ _
  refine wpAny_bind ?_
  unfold Builtin.SmallTypes.ownedTupleIsFree
  refine wpAny_bind (wpAny_field hz rfl (x := .none) rfl (wpAny_pure ?_))
  simp only [if_true]
  refine wpAny_bind (wpAny_rule ?_)
  refine wpAny_bind (wpAny_field hz rfl (x := .ref TO) rfl ?_)
  refine wpAny_bind (wpAny_setField_rec hz (by simp) fun h₁ hz₁ hs₁ => ?_)
  replace hz₁ : IsZip h₁ z TI TO .ellipsis := hz₁
  have m₁ : ∀ c o, c ≠ z → s.heap.get? c = some o → h₁.get? c = some o := fun c o n e => hs₁.extBut _ _ n e
  refine wpAny_bind ?_
  simp only [List.zipIdx_cons, List.zipIdx_nil, List.forIn_cons, List.forIn_nil]
  refine wpAny_bind (wpAny_bind (wpAny_onRaise ?_))
  show wpAny _ _ (Builtin.SmallTypes.nextOf (.ref i1) >>= _) _ _ _
  cases hx : xs[n1]? with
  | none =>
    refine wpAny_bind (next_k_end hh (h1.to fun o => m₁ _ o D.i1z) (hl1.to fun o => m₁ _ o D.l1z) hx fun h₂ e hs₂ he => ?_)
    obtain ⟨oe, hoe, hce⟩ := he
    have hz₂ : IsZip h₂ z TI TO .ellipsis := hs₂ _ _ D.i1z.symm hz₁
    have hez : e ≠ z := fun x => by subst x; rw [hz₂] at hoe; cases hoe; simp at hce
    refine wpAny_setField_rec hz₂ (by simp) fun h₃ _ hs₃ => hE h₃ e (fun c o c1 _ c3 _ x => hs₃.extBut _ _ c1 (hs₂ _ _ c3 (m₁ c o c1 x))) ⟨oe, hs₃.extBut _ _ hez hoe, hce⟩
  | some x =>
    have hy : ys[n2]? = none := by rcases hend with h | h; rw [hx] at h; cases h; exact h
    refine wpAny_bind (next_k (h1.to fun o => m₁ _ o D.i1z) (hl1.to fun o => m₁ _ o D.l1z) hx fun h₂ h1₂ hs₂ => wpAny_pure ?_)
    have m₂ : ∀ c o, c ≠ z → c ≠ i1 → s.heap.get? c = some o → h₂.get? c = some o := fun c o n n' e => hs₂.extBut _ _ n' (m₁ c o n e)
    have hTO₂ : IsPair h₂ TO a b := m₂ _ _ D.TOz D.TOi1 hTO
    refine wpAny_bind (wpAny_seqItems hTO₂ rfl ?_)
    refine wpAny_bind (wpAny_updateSeq_pair hTO₂ fun h₃ hTO₃ hs₃ => ?_)
    have m₃ : ∀ c o, c ≠ z → c ≠ i1 → c ≠ TO → s.heap.get? c = some o → h₃.get? c = some o := fun c o n n' n'' e => hs₃.extBut _ _ n'' (m₂ c o n n' e)
    refine wpAny_bind (wpAny_letGo (wpAny_pure ?_))
    refine wpAny_bind (wpAny_bind (wpAny_onRaise ?_))
    show wpAny _ _ (Builtin.SmallTypes.nextOf (.ref i2) >>= _) _ _ _
    refine wpAny_bind (next_k_end hh (h2.to fun o => m₃ _ o D.i2z D.i12.symm D.TOi2.symm) (hl2.to fun o => m₃ _ o D.l2z D.l2i1 D.l2TO) hy fun h₄ e hs₄ he => ?_)
    obtain ⟨oe, hoe, hce⟩ := he
    have hz₄ : IsZip h₄ z TI TO .ellipsis := hs₄ _ _ D.i2z.symm (hs₃.extBut _ _ D.TOz.symm (hs₂.extBut _ _ D.i1z.symm hz₁))
    have hez : e ≠ z := fun x => by subst x; rw [hz₄] at hoe; cases hoe; simp at hce
    refine wpAny_setField_rec hz₄ (by simp) fun h₅ _ hs₅ => hE h₅ e (fun c o c1 c2 c3 c4 x => hs₅.extBut _ _ c1 (hs₄ _ _ c4 (m₃ c o c1 c3 c2 x))) ⟨oe, hs₅.extBut _ _ hez hoe, hce⟩
theorem pyNext_zip {k1 k2 : Bool} {z TI TO i1 i2 l1 l2 : Addr} {n1 n2 : Nat} {xs ys : Array Value} {x y a b : Value} {Q : Option Value → Shared → Prop} (D : ZipApart z TI TO i1 i2 l1 l2)
    (hz : IsZip s.heap z TI TO .none) (hTI : IsPair s.heap TI (.ref i1) (.ref i2)) (hTO : IsPair s.heap TO a b)
    (h1 : ItK k1 s.heap i1 l1 n1) (h2 : ItK k2 s.heap i2 l2 n2) (hl1 : RawK k1 s.heap l1 xs) (hl2 : RawK k2 s.heap l2 ys) (hx : xs[n1]? = some x) (hy : ys[n2]? = some y)
    (hQ : ∀ h', IsZip h' z TI TO (rawInt s.heap.objs.size) → IsPair h' TO x y → ItK k1 h' i1 l1 (n1 + 1) → ItK k2 h' i2 l2 (n2 + 1) → IsPair h' s.heap.objs.size x y → h'.objs.size = s.heap.objs.size + 1 →
      (∀ c o, c ≠ z → c ≠ TO → c ≠ i1 → c ≠ i2 → s.heap.get? c = some o → h'.get? c = some o) → Q (some (.ref s.heap.objs.size)) { s with heap := h' }) :
    wpAny (model prog w) A (pyNext (.ref z)) Q E s := by
  have hT : s.TypeIs (.ref z) "zip" := ⟨_, hz, rfl⟩
  unfold pyNext
  exact wpAny_bind (wpAny_attempt (wpAny_callSpecial?_slot (name := Str.ofString "__next__") hT PySem.F.slot_zip_next
    (wpAny_call_entry PySem.F.slot_zip_next hT PySem.F.entry_zip_next
      (zip_item D hz hTI hTO h1 h2 hl1 hl2 hx hy fun h' a1 a2 a3 a4 a5 a6 a7 => wpAny_pure (hQ h' a1 a2 a3 a4 a5 a6 a7)) (PySem.F.args_zip_next_1 _))))
theorem pyNext_zip_end {k1 k2 : Bool} {z TI TO i1 i2 l1 l2 : Addr} {n1 n2 : Nat} {xs ys : Array Value} {a b : Value} {Q : Option Value → Shared → Prop} (hh : A.handled = none) (D : ZipApart z TI TO i1 i2 l1 l2)
    (hz : IsZip s.heap z TI TO .none) (hTI : IsPair s.heap TI (.ref i1) (.ref i2)) (hTO : IsPair s.heap TO a b)
    (h1 : ItK k1 s.heap i1 l1 n1) (h2 : ItK k2 s.heap i2 l2 n2) (hl1 : RawK k1 s.heap l1 xs) (hl2 : RawK k2 s.heap l2 ys) (hend : xs[n1]? = none ∨ ys[n2]? = none)
    (hQ : ∀ h', (∀ c o, c ≠ z → c ≠ TO → c ≠ i1 → c ≠ i2 → s.heap.get? c = some o → h'.get? c = some o) → Q none { s with heap := h' }) : wpAny (model prog w) A (pyNext (.ref z)) Q E s := by
  have hT : s.TypeIs (.ref z) "zip" := ⟨_, hz, rfl⟩
  unfold pyNext
  refine wpAny_bind (wpAny_attempt (wpAny_callSpecial?_slot (name := Str.ofString "__next__") hT PySem.F.slot_zip_next
    (wpAny_call_entry PySem.F.slot_zip_next hT PySem.F.entry_zip_next (zip_end hh D hz hTI hTO h1 h2 hl1 hl2 hend fun h' e hk he => ?_) (PySem.F.args_zip_next_1 _))))
  obtain ⟨o, ho, hc⟩ := he
  refine wpAny_bind (wpAny_isInstance (T := "StopIteration") (b := true) ⟨o, ho, hc⟩ isSubtype_stop ?_)
  exact wpAny_pure (hQ _ hk)
end
abbrev zH1 (a : String) (h : Heap) (l1 : Addr) : Heap := h.push { cls := .type a, data := .fields #[.ref l1, .int 0 0] }
abbrev zH2 (a b : String) (h : Heap) (l1 l2 : Addr) : Heap := (zH1 a h l1).push { cls := .type b, data := .fields #[.ref l2, .int 0 0] }
abbrev zH3 (a b : String) (h : Heap) (l1 l2 : Addr) : Heap := (zH2 a b h l1 l2).push { cls := .type "tuple", data := .seq #[.ref h.objs.size, .ref (zH1 a h l1).objs.size] }
abbrev zH4 (a b : String) (h : Heap) (l1 l2 : Addr) : Heap := (zH3 a b h l1 l2).push { cls := .type "tuple", data := .seq #[.none, .none] }
abbrev zH5 (a b : String) (h : Heap) (l1 l2 : Addr) : Heap := (zH4 a b h l1 l2).push { cls := .type "zip", data := .fields #[.none, .bool false, .bool false, .ref (zH2 a b h l1 l2).objs.size, .ref (zH3 a b h l1 l2).objs.size] }
theorem zip_newLL (l1 l2 : Addr) (xs ys : Array Value) :
    Meets (Builtin.«zip.__new__» ⟨[.type "zip", .ref l1, .ref l2], []⟩) (fun _ R s => s.heap.IsList l1 xs ∧ s.heap.IsList l2 ys ∧
      R (.ok (.ret (.ref (zH4 "list_iterator" "list_iterator" s.heap l1 l2).objs.size))) { s with heap := zH5 "list_iterator" "list_iterator" s.heap l1 l2 }) :=
  .of_wp fun prog w A R s h => by
    obtain ⟨hp, g, d, tk, os⟩ := s; obtain ⟨hl1, hl2, h⟩ := h
    have hsub := sub_zip
    have hL1 : Heap.IsList (Shared.heap ⟨hp, g, d, tk, os⟩) l1 xs := hl1
    have hL2 : Heap.IsList (Shared.heap ⟨hp.push { cls := .type "list_iterator", data := .fields #[.ref l1, .int 0 0] }, g, d, tk, os⟩) l2 ys := let ⟨o, e, r⟩ := hl2; ⟨o, Heap.get?_push_of_some _ e, r⟩
    wp_walk using wpAny_pyIter_list hL1, wpAny_pyIter_list hL2
    exact ⟨_, rfl, h⟩
theorem zip_newLT (l1 l2 : Addr) (xs ys : Array Value) :
    Meets (Builtin.«zip.__new__» ⟨[.type "zip", .ref l1, .ref l2], []⟩) (fun _ R s => s.heap.IsList l1 xs ∧ s.heap.IsTuple l2 ys ∧
      R (.ok (.ret (.ref (zH4 "list_iterator" "tuple_iterator" s.heap l1 l2).objs.size))) { s with heap := zH5 "list_iterator" "tuple_iterator" s.heap l1 l2 }) :=
  .of_wp fun prog w A R s h => by
    obtain ⟨hp, g, d, tk, os⟩ := s; obtain ⟨hl1, hl2, h⟩ := h
    have hsub := sub_zip
    have hL1 : Heap.IsList (Shared.heap ⟨hp, g, d, tk, os⟩) l1 xs := hl1
    have hL2 : Heap.IsTuple (Shared.heap ⟨hp.push { cls := .type "list_iterator", data := .fields #[.ref l1, .int 0 0] }, g, d, tk, os⟩) l2 ys := let ⟨o, e, r⟩ := hl2; ⟨o, Heap.get?_push_of_some _ e, r⟩
    wp_walk using wpAny_pyIter_list hL1, wpAny_pyIter_tuple hL2
    exact ⟨_, rfl, h⟩
theorem zip_newTL (l1 l2 : Addr) (xs ys : Array Value) :
    Meets (Builtin.«zip.__new__» ⟨[.type "zip", .ref l1, .ref l2], []⟩) (fun _ R s => s.heap.IsTuple l1 xs ∧ s.heap.IsList l2 ys ∧
      R (.ok (.ret (.ref (zH4 "tuple_iterator" "list_iterator" s.heap l1 l2).objs.size))) { s with heap := zH5 "tuple_iterator" "list_iterator" s.heap l1 l2 }) :=
  .of_wp fun prog w A R s h => by
    obtain ⟨hp, g, d, tk, os⟩ := s; obtain ⟨hl1, hl2, h⟩ := h
    have hsub := sub_zip
    have hL1 : Heap.IsTuple (Shared.heap ⟨hp, g, d, tk, os⟩) l1 xs := hl1
    have hL2 : Heap.IsList (Shared.heap ⟨hp.push { cls := .type "tuple_iterator", data := .fields #[.ref l1, .int 0 0] }, g, d, tk, os⟩) l2 ys := let ⟨o, e, r⟩ := hl2; ⟨o, Heap.get?_push_of_some _ e, r⟩
    wp_walk using wpAny_pyIter_tuple hL1, wpAny_pyIter_list hL2
    exact ⟨_, rfl, h⟩
theorem zip_newTT (l1 l2 : Addr) (xs ys : Array Value) :
    Meets (Builtin.«zip.__new__» ⟨[.type "zip", .ref l1, .ref l2], []⟩) (fun _ R s => s.heap.IsTuple l1 xs ∧ s.heap.IsTuple l2 ys ∧
      R (.ok (.ret (.ref (zH4 "tuple_iterator" "tuple_iterator" s.heap l1 l2).objs.size))) { s with heap := zH5 "tuple_iterator" "tuple_iterator" s.heap l1 l2 }) :=
  .of_wp fun prog w A R s h => by
    obtain ⟨hp, g, d, tk, os⟩ := s; obtain ⟨hl1, hl2, h⟩ := h
    have hsub := sub_zip
    have hL1 : Heap.IsTuple (Shared.heap ⟨hp, g, d, tk, os⟩) l1 xs := hl1
    have hL2 : Heap.IsTuple (Shared.heap ⟨hp.push { cls := .type "tuple_iterator", data := .fields #[.ref l1, .int 0 0] }, g, d, tk, os⟩) l2 ys := let ⟨o, e, r⟩ := hl2; ⟨o, Heap.get?_push_of_some _ e, r⟩
    wp_walk using wpAny_pyIter_tuple hL1, wpAny_pyIter_tuple hL2
    exact ⟨_, rfl, h⟩
theorem zip_newK (k1 k2 : Bool) (l1 l2 : Addr) (xs ys : Array Value) :
    Meets (Builtin.«zip.__new__» ⟨[.type "zip", .ref l1, .ref l2], []⟩) (fun _ R s => RawK k1 s.heap l1 xs ∧ RawK k2 s.heap l2 ys ∧
      R (.ok (.ret (.ref (zH4 (itn k1) (itn k2) s.heap l1 l2).objs.size))) { s with heap := zH5 (itn k1) (itn k2) s.heap l1 l2 }) := by
  cases k1 <;> cases k2
  · exact zip_newLL l1 l2 xs ys
  · exact zip_newLT l1 l2 xs ys
  · exact zip_newTL l1 l2 xs ys
  · exact zip_newTT l1 l2 xs ys
section
variable {prog : Program} {w : World} {A : Around} {E : Value → Shared → Prop} {s : Shared}
theorem call_zip {k1 k2 : Bool} {l1 l2 : Addr} {xs ys : Array Value} {Q : Value → Shared → Prop} (hl1 : RawK k1 s.heap l1 xs) (hl2 : RawK k2 s.heap l2 ys)
    (h : ∀ h', IsZip h' (s.heap.objs.size + 4) (s.heap.objs.size + 2) (s.heap.objs.size + 3) .none → IsPair h' (s.heap.objs.size + 2) (.ref s.heap.objs.size) (.ref (s.heap.objs.size + 1)) →
      IsPair h' (s.heap.objs.size + 3) .none .none → ItK k1 h' s.heap.objs.size l1 0 → ItK k2 h' (s.heap.objs.size + 1) l2 0 → h'.objs.size = s.heap.objs.size + 5 →
      (∀ c o, s.heap.get? c = some o → h'.get? c = some o) → Q (.ref (s.heap.objs.size + 4)) { s with heap := h' }) :
    wpAny (model prog w) A (call (.type "zip") [.ref l1, .ref l2]) Q E s := by
  refine callType_new PySem.F.called_zip (by decide) (PySem.F.typeCall_zip_2 _ _) (PySem.F.newCall_zip_2 _ _) (fun obj => PySem.F.args_object_init_3 obj _ _) PySem.F.entry_zip_new
    (zip_newK k1 k2 l1 l2 xs ys) ⟨hl1, hl2, ?_⟩
  generalize ea : itn k1 = a
  generalize eb : itn k2 = b
  have z1 : (zH1 a s.heap l1).objs.size = s.heap.objs.size + 1 := Heap.size_push ..
  have z2 : (zH2 a b s.heap l1 l2).objs.size = s.heap.objs.size + 2 := by rw [Heap.size_push, z1]
  have z3 : (zH3 a b s.heap l1 l2).objs.size = s.heap.objs.size + 3 := by rw [Heap.size_push, z2]
  have z4 : (zH4 a b s.heap l1 l2).objs.size = s.heap.objs.size + 4 := by rw [Heap.size_push, z3]
  have z5 : (zH5 a b s.heap l1 l2).objs.size = s.heap.objs.size + 5 := by rw [Heap.size_push, z4]
  have g5 : (zH5 a b s.heap l1 l2).get? (zH4 a b s.heap l1 l2).objs.size = some _ := Heap.get?_push_size _ rfl
  have g4 : (zH5 a b s.heap l1 l2).get? (zH3 a b s.heap l1 l2).objs.size = some _ := Heap.get?_push_of_some _ (Heap.get?_push_size _ rfl)
  have g3 : (zH5 a b s.heap l1 l2).get? (zH2 a b s.heap l1 l2).objs.size = some _ := Heap.get?_push_of_some _ (Heap.get?_push_of_some _ (Heap.get?_push_size _ rfl))
  have g2 : (zH5 a b s.heap l1 l2).get? (zH1 a s.heap l1).objs.size = some _ := Heap.get?_push_of_some _ (Heap.get?_push_of_some _ (Heap.get?_push_of_some _ (Heap.get?_push_size _ rfl)))
  have g1 : (zH5 a b s.heap l1 l2).get? s.heap.objs.size = some _ := Heap.get?_push_of_some _ (Heap.get?_push_of_some _ (Heap.get?_push_of_some _ (Heap.get?_push_of_some _ (Heap.get?_push_size _ rfl))))
  show _ ∧ _
  rw [z2, z3, z4] at g5
  rw [z1, z2] at g3
  rw [z3] at g4
  rw [z1] at g2
  rw [z4]
  subst ea eb
  exact ⟨⟨_, g5, rfl⟩, h _ g5 g3 g4 (.mk g1) (.mk g2) z5 fun c o x =>
    Heap.get?_push_of_some _ (Heap.get?_push_of_some _ (Heap.get?_push_of_some _ (Heap.get?_push_of_some _ (Heap.get?_push_of_some _ x))))⟩
end
end Dt
namespace L2
open PySem PySem.Spec PyProof.Rows
theorem bt_zip : bootBuiltins "zip" = some (.type "zip") := by decide +kernel
def SqK (k : Bool) (K : PySem.W.Frag) (H : Hp) (a : Addr) (xs : List V) : Prop := match k with | true => SqT K H a xs | false => SqL K H a xs
theorem Inv.sqK {X : Cx} {pins : List (Addr × Obj)} {σ : St} {H : Hp} {s : Shared} {k : Bool} {a : Addr} {xs : List V} (I : Inv X pins σ H s) (h : SqK k X.K H a xs) : ∃ its : List Value, Vals xs its ∧ Dt.RawK k s.heap a its.toArray := by
  cases k
  · obtain ⟨its, r, p, _⟩ := I.list h
    exact ⟨its, r, p.isList⟩
  · obtain ⟨its, r, p, _⟩ := I.tuple h
    exact ⟨its, r, p⟩
theorem Inv.sqK_inj {X : Cx} {pins : List (Addr × Obj)} {σ : St} {H : Hp} {s : Shared} {k : Bool} {a : Addr} {xs ys : List V} (I : Inv X pins σ H s) (h : SqK k X.K H a xs) (h' : SqK k X.K H a ys) : xs = ys := by
  cases k
  · exact I.list_inj h h'
  · exact I.tuple_inj h h'
theorem Same.sqK {k : Bool} {K : PySem.W.Frag} {H H' : Hp} {a : Addr} {xs : List V} (e : Same H H') (h : SqK k K H a xs) : SqK k K H' a xs := by
  cases k
  · exact e.seq h
  · exact e.seqT h
def Itz (K : PySem.W.Frag) (k1 k2 : Bool) (a b : Addr) : It :=
  ⟨fun i H => ∃ xs ys x y, SqK k1 K H a xs ∧ SqK k2 K H b ys ∧ xs[i]? = some x ∧ ys[i]? = some y,
   fun i H v H' => ∃ p x y, H p = none ∧ v = .ref p ∧ H' = upd H p (.tup [x, y]) ∧ (∀ xs, SqK k1 K H a xs → xs[i]? = some x) ∧ ∀ ys, SqK k2 K H b ys → ys[i]? = some y,
   fun i H => ∃ xs ys, SqK k1 K H a xs ∧ SqK k2 K H b ys ∧ (xs.length ≤ i ∨ ys.length ≤ i)⟩
theorem turn_zip {P : Program} {w : World} {K : PySem.W.Frag} {elts : List Expr} {x1 : Nat} {pos : Pos} (k1 k2 : Bool) {z TI TO i1 i2 l1 l2 : Addr} (D : ZipApart z TI TO i1 i2 l1 l2) :
    Turn P w K (.Tuple elts x1 pos) (Itz K k1 k2 l1 l2) [z, TI, TO, i1, i2] z (fun i h => IsZip h z TI TO .none ∧ IsPair h TI (.ref i1) (.ref i2) ∧ (∃ a b, IsPair h TO a b) ∧ Dt.ItK k1 h i1 l1 i ∧ Dt.ItK k2 h i2 l2 i) where
  mem := by simp
  obj := fun i h st b hb => by
    obtain ⟨hz, hTI, ⟨a, c, hTO⟩, h1, h2⟩ := st
    have hb' : b = z ∨ b = TI ∨ b = TO ∨ b = i1 ∨ b = i2 := by simpa using hb
    rcases hb' with rfl | rfl | rfl | rfl | rfl
    · exact ⟨_, hz, fun v z => nomatch z⟩
    · exact ⟨_, hTI, fun v z => nomatch z⟩
    · exact ⟨_, hTO, fun v z => nomatch z⟩
    · exact h1.obj
    · exact h2.obj
  keep := fun i h h' st k => by
    obtain ⟨hz, hTI, ⟨a, c, hTO⟩, h1, h2⟩ := st
    exact ⟨k z (by simp) _ hz, k TI (by simp) _ hTI, ⟨a, c, k TO (by simp) _ hTO⟩, h1.to (k i1 (by simp)), h2.to (k i2 (by simp))⟩
  item := by
    intro X hP hw hK hc i pins s σ H E I hf st hg
    subst hP hw hK
    obtain ⟨hz, hTI, ⟨a, c, hTO⟩, h1, h2⟩ := st
    obtain ⟨xs, ys, x, y, hq1, hq2, hx, hy⟩ := hg
    obtain ⟨is1, rv1, p1⟩ := I.sqK hq1
    obtain ⟨is2, rv2, p2⟩ := I.sqK hq2
    obtain ⟨u, hu, ru⟩ := rv1.get hx
    obtain ⟨v, hv, rv⟩ := rv2.get hy
    refine Dt.pyNext_zip D hz hTI hTO h1 h2 p1 p2 (x := u) (y := v) (by simpa using hu) (by simpa using hv) fun h' a1 a2 a3 a4 a5 a6 hk' => ?_
    refine ⟨_, rfl, wpAny_letOwnedTupleGo_zip (s := { s with heap := h' }) a1 fun h3 hz3 sb3 => ?_⟩
    have nn : H s.heap.objs.size = none := I.hok.fresh (Nat.le_refl _)
    have keep : ∀ b o, b ≠ z → b ≠ TO → b ≠ i1 → b ≠ i2 → s.heap.get? b = some o → h3.get? b = some o := fun b o n1 n2 n3 n4 q => (sb3.2 b n1).trans (hk' b o n1 n2 n3 n4 q)
    have nt : ∀ b u, H b = some u → b ≠ z ∧ b ≠ TO ∧ b ≠ i1 ∧ b ≠ i2 := fun b u q => ⟨(fun e => by rw [e, (hf z (by simp)).1] at q; cases q), (fun e => by rw [e, (hf TO (by simp)).1] at q; cases q), (fun e => by rw [e, (hf i1 (by simp)).1] at q; cases q), (fun e => by rw [e, (hf i2 (by simp)).1] at q; cases q)⟩
    have mem2 : ∀ b, b ∉ [z, TO, i1, i2] → b ≠ z ∧ b ≠ TO ∧ b ≠ i1 ∧ b ≠ i2 := fun b hb => by simpa using hb
    have kp : ∀ b o, b ∉ [z, TO, i1, i2] → s.heap.get? b = some o → h3.get? b = some o := fun b o hb q => keep b o (mem2 b hb).1 (mem2 b hb).2.1 (mem2 b hb).2.2.1 (mem2 b hb).2.2.2 q
    have I1 : Inv X pins σ H { s with heap := h3 } := by
      refine I.step (g' := s.gens) (d' := s.drawn) (t' := s.toks) (ch := [z, TO, i1, i2]) (fun b hb => ?_) (fun b o _ _ hc q _ => kp b o hc q) (fun b o _ _ hc q _ => ⟨o.slots, kp b o hc q⟩) (fun _ _ _ _ n => n)
        (fun b o hc q => ⟨o, kp b o hc q⟩) (fun _ _ q => q) (fun _ _ _ q => q) (fun b ps q => ⟨#[], by rw [q]; simp⟩) (fun m hm => ?_) (fun b u q => ?_) I.bare
      · have hb2 : b ∈ [z, TI, TO, i1, i2] := by
          have hb' : b = z ∨ b = TO ∨ b = i1 ∨ b = i2 := by simpa using hb
          rcases hb' with rfl | rfl | rfl | rfl <;> simp
        have fb := hf b hb2
        exact ⟨fb.2.2.2.1, fb.2.1, fb.2.2.2.2.1, fb.2.2.2.2.2⟩
      · obtain ⟨o, es, ep, ho, r⟩ := hm
        exact ⟨o, es, ep, keep _ o (Ne.symm (hf z (by simp)).2.1) (Ne.symm (hf TO (by simp)).2.1) (Ne.symm (hf i1 (by simp)).2.1) (Ne.symm (hf i2 (by simp)).2.1) ho, r⟩
      · refine (I.hok b u q).stay (fun c v hc q' => ?_) (fun _ q' => q') fun _ _ q' => q'
        rcases hc with e | e
        · rw [e] at q' ⊢
          obtain ⟨n1, n2, n3, n4⟩ := nt b u q
          exact keep _ v n1 n2 n3 n4 q'
        · obtain ⟨n1, n2, n3, n4⟩ := nt c _ e
          exact keep _ v n1 n2 n3 n4 q'
    have hzl : z < s.heap.objs.size := Heap.lt_size hz
    have ht2 : h3.get? s.heap.objs.size = some { cls := .type "tuple", data := .seq #[u, v] } := (sb3.2 _ (Nat.ne_of_gt hzl)).trans a5
    have I2 : Inv X pins σ (upd H s.heap.objs.size (.tup [x, y])) { s with heap := h3 } :=
      I.later (Heap.get?_none_of_le (Nat.le_refl _)) I1 nn ⟨(by show 2 ≤ sizeLine; decide), [u, v], .cons ru (.cons rv .nil), _, ht2, ⟨rfl, rfl⟩, 0, rfl⟩
    refine ⟨.ref s.heap.objs.size, _, I2, rfl, ⟨s.heap.objs.size, x, y, nn, rfl, rfl, fun xs' h' => by rw [I.sqK_inj h' hq1]; exact hx, fun ys' h' => by rw [I.sqK_inj h' hq2]; exact hy⟩,
      ⟨hz3, (sb3.2 _ D.TIz).trans (hk' _ _ D.TIz D.TITO D.TIi1 D.TIi2 hTI), ⟨u, v, (sb3.2 _ D.TOz).trans a2⟩, a3.to fun o e => (sb3.2 _ D.i1z).trans e, a4.to fun o e => (sb3.2 _ D.i2z).trans e⟩, fun b hb => ?_⟩
    have hlt : b < s.heap.objs.size := by
      have hb' : b = z ∨ b = TI ∨ b = TO ∨ b = i1 ∨ b = i2 := by simpa using hb
      rcases hb' with rfl | rfl | rfl | rfl | rfl
      · exact hzl
      · exact Heap.lt_size hTI
      · exact Heap.lt_size hTO
      · obtain ⟨o, e, _⟩ := h1.obj; exact Heap.lt_size e
      · obtain ⟨o, e, _⟩ := h2.obj; exact Heap.lt_size e
    rw [upd_ne (Nat.ne_of_lt hlt)]
    exact (hf b hb).1
  done := by
    intro X hP hw hK hc i pins s σ H E I hf st hg
    subst hP hw hK
    obtain ⟨hz, hTI, ⟨a, c, hTO⟩, h1, h2⟩ := st
    obtain ⟨xs, ys, hq1, hq2, hend⟩ := hg
    obtain ⟨is1, rv1, p1⟩ := I.sqK hq1
    obtain ⟨is2, rv2, p2⟩ := I.sqK hq2
    have e1 := rv1.length
    have e2 := rv2.length
    refine Dt.pyNext_zip_end (I.ok.hd hc) D hz hTI hTO h1 h2 p1 p2 ?_ fun h' hk' => ⟨rfl, ?_⟩
    · rcases hend with h | h
      · exact .inl (by rw [Array.getElem?_eq_none_iff, List.size_toArray]; omega)
      · exact .inr (by rw [Array.getElem?_eq_none_iff, List.size_toArray]; omega)
    have nt : ∀ b u, H b = some u → b ≠ z ∧ b ≠ TO ∧ b ≠ i1 ∧ b ≠ i2 := fun b u q => ⟨(fun e => by rw [e, (hf z (by simp)).1] at q; cases q), (fun e => by rw [e, (hf TO (by simp)).1] at q; cases q), (fun e => by rw [e, (hf i1 (by simp)).1] at q; cases q), (fun e => by rw [e, (hf i2 (by simp)).1] at q; cases q)⟩
    have mem2 : ∀ b, b ∉ [z, TO, i1, i2] → b ≠ z ∧ b ≠ TO ∧ b ≠ i1 ∧ b ≠ i2 := fun b hb => by simpa using hb
    have kp : ∀ b o, b ∉ [z, TO, i1, i2] → s.heap.get? b = some o → h'.get? b = some o := fun b o hb q => hk' b o (mem2 b hb).1 (mem2 b hb).2.1 (mem2 b hb).2.2.1 (mem2 b hb).2.2.2 q
    refine I.step (g' := s.gens) (d' := s.drawn) (t' := s.toks) (ch := [z, TO, i1, i2]) (fun b hb => ?_) (fun b o _ _ hc q _ => kp b o hc q) (fun b o _ _ hc q _ => ⟨o.slots, kp b o hc q⟩) (fun _ _ _ _ n => n)
      (fun b o hc q => ⟨o, kp b o hc q⟩) (fun _ _ q => q) (fun _ _ _ q => q) (fun b ps q => ⟨#[], by rw [q]; simp⟩) (fun m hm => ?_) (fun b u q => ?_) I.bare
    · have hb2 : b ∈ [z, TI, TO, i1, i2] := by
        have hb' : b = z ∨ b = TO ∨ b = i1 ∨ b = i2 := by simpa using hb
        rcases hb' with rfl | rfl | rfl | rfl <;> simp
      have fb := hf b hb2
      exact ⟨fb.2.2.2.1, fb.2.1, fb.2.2.2.2.1, fb.2.2.2.2.2⟩
    · obtain ⟨o, es, ep, ho, r⟩ := hm
      exact ⟨o, es, ep, hk' _ o (Ne.symm (hf z (by simp)).2.1) (Ne.symm (hf TO (by simp)).2.1) (Ne.symm (hf i1 (by simp)).2.1) (Ne.symm (hf i2 (by simp)).2.1) ho, r⟩
    · refine (I.hok b u q).stay (fun c v hc q' => ?_) (fun _ q' => q') fun _ _ q' => q'
      rcases hc with e | e
      · rw [e] at q' ⊢
        obtain ⟨n1, n2, n3, n4⟩ := nt b u q
        exact hk' _ v n1 n2 n3 n4 q'
      · obtain ⟨n1, n2, n3, n4⟩ := nt c _ e
        exact hk' _ v n1 n2 n3 n4 q'
  self := fun _ _ _ _ _ st h => wpAny_pyIter_zip st.1 h
def iZip (K : PySem.W.Frag) (k1 k2 : Bool) (ta : TA) : TI := fun σ H R => ta σ H fun vs H1 => ∃ a b, vs = [.ref a, .ref b] ∧ (∃ xs, SqK k1 K H1 a xs) ∧ (∃ ys, SqK k2 K H1 b ys) ∧ R (Itz K k1 k2 a b) H1
theorem pi_zip {X : Cx} (k1 k2 : Bool) {elts : List Expr} {x1 : Nat} {tpos : Pos} {a b : Expr} {ta : TA} {p pos : Pos} (hg : Gl X "zip") (hm : X.mg "zip" = none) (ha : PA X [a, b] ta) (hs : starEach [a, b] X.env = (false, eval a X.env) :: starEach [b] X.env := by rfl) (hp : (backTo pos (starEach [b] X.env)).any (·.1) = false := by rfl) :
    PI X (.Tuple elts x1 tpos) (.Call (.Name "zip" p) [a, b] [] pos) (iZip X.K k1 k2 ta) := by
  intro pins s σ H R I h
  refine Call_ (ld_blt I hg hm bt_zip (PyProof.Rows.callWith_type1 (thn (ha pos pins s σ H _ I h) fun us s1 ⟨vs, H1, I1, r1, q1⟩ => ?_) hs hp))
  obtain ⟨l1, l2, e, ⟨xs, hq1⟩, ⟨ys, hq2⟩, q⟩ := q1
  subst e
  obtain ⟨u, v, rfl, rx, ry⟩ := vals2 r1
  cases (show u = Value.ref l1 from rx)
  cases (show v = Value.ref l2 from ry)
  obtain ⟨is1, rv1, p1⟩ := I1.sqK hq1
  obtain ⟨is2, rv2, p2⟩ := I1.sqK hq2
  refine Dt.call_zip p1 p2 fun h' hz hTI hTO it1 it2 hsz hk => ?_
  refine wpAny_pyIter_zip hz ?_
  have I2 : Inv X pins σ H1 { s1 with heap := h' } := I1.kept (t' := s1.toks) hk
  have n1 : l1 < s1.heap.objs.size := p1.lt
  have n2 : l2 < s1.heap.objs.size := p2.lt
  have D : ZipApart (s1.heap.objs.size + 4) (s1.heap.objs.size + 2) (s1.heap.objs.size + 3) s1.heap.objs.size (s1.heap.objs.size + 1) l1 l2 := by
    constructor <;> (intro e; simp only [Addr] at *; omega)
  refine ⟨_, _, _, _, H1, rfl, I2, turn_zip k1 k2 D, ⟨hz, hTI, ⟨_, _, hTO⟩, it1, it2⟩, fun b hb => ?_, q⟩
  have ge : s1.heap.objs.size ≤ b := by
    have hb' : b = s1.heap.objs.size + 4 ∨ b = s1.heap.objs.size + 2 ∨ b = s1.heap.objs.size + 3 ∨ b = s1.heap.objs.size ∨ b = s1.heap.objs.size + 1 := by simpa using hb
    rcases hb' with rfl | rfl | rfl | rfl | rfl
    · exact Nat.le_add_right ..
    · exact Nat.le_add_right ..
    · exact Nat.le_add_right ..
    · exact Nat.le_refl _
    · exact Nat.le_add_right ..
  exact I1.fpOk ge (I1.hok.fresh ge)
theorem comp_any {J : It} {n : Nat} {g : TG} {ti : TT} {te : TE} {Fi : Hp → Prop} {σ1 : St} {H1 : Hp} {D : Addr} (hD : H1 D = none) (hz : n < sizeLine)
    (hgo : ∀ (i : Nat) H', Same H1 H' → i < n → J.go i H') (hst : ∀ H', Same H1 H' → J.stop n H')
    (Pv : Nat → List V → St → Hp → Prop) (h0 : Pv 0 [] σ1 H1)
    (hs : ∀ i ys σ H' x H2, i < n → J.yld i H' x H2 → Pv i ys σ (hid D H') → H' D = some (.lst ys) → Same H1 (hid D H') → Same H1 H' → ∀ (Ry : St → V → Hp → Prop) (Rn : St → Hp → Prop),
      (∀ σ2 y H5, Same H' H5 → Pv (i + 1) (ys ++ [y]) σ2 (hid D H5) → Ry σ2 y H5) → (∀ σ2 H4, Same H' H4 → Pv (i + 1) ys σ2 (hid D H4) → Rn σ2 H4) →
      g x σ H2 fun σ2 H3 => ti σ2 H3 fun b H4 => if b = true then te σ2 H4 fun y H5 => Ry σ2 y H5 else Rn σ2 H4)
    (hd : ∀ ys σ H', Pv n ys σ (hid D H') → H' D = some (.lst ys) → Same H1 (hid D H') → Fi H') :
    ∃ W : Nat → Nat → St → Hp → Prop, (∃ m, W 0 m σ1 (upd H1 D (.lst []))) ∧ ∀ i m σ' H', W i m σ' H' →
      (J.stop i H' ∧ Fi H') ∨ (J.go i H' ∧ ∀ x H2, J.yld i H' x H2 → g x σ' H2 fun σ2 H3 => ti σ2 H3 fun b H4 => if b = true then te σ2 H4 fun y H5 => ∃ ys, H5 D = some (.lst ys) ∧ ys.length < sizeLine ∧ ∃ m', m' < m ∧ W (i + 1) m' σ2 (upd H5 D (.lst (ys ++ [y])))
        else ∃ m', m' < m ∧ W (i + 1) m' σ2 H4) := by
  refine ⟨fun i m σ H' => m = n - i ∧ i ≤ n ∧ ∃ ys, ys.length ≤ i ∧ H' D = some (.lst ys) ∧ Same H1 (hid D H') ∧ Pv i ys σ (hid D H'), ⟨n, by simp, Nat.zero_le _, [], Nat.le_refl _, upd_same, ?_, ?_⟩, ?_⟩
  · rw [hid_upd, hid_none hD]; exact fun _ _ e => e
  · rw [hid_upd, hid_none hD]; exact h0
  rintro i m σ H' ⟨rfl, hi, ys, hl, eD, sm, p⟩
  have sm' : Same H1 H' := fun b o e => hid_le b o (sm b o e)
  by_cases hlt : i < n
  · refine .inr ⟨hgo i H' sm' hlt, fun x H2 y => ?_⟩
    refine hs i ys σ H' x H2 hlt y p eD sm sm' _ _ (fun σ2 y H5 s5 p5 => ?_) (fun σ2 H4 s4 p4 => ?_)
    · refine ⟨ys, s5 _ _ eD, by omega, n - (i + 1), by omega, rfl, hlt, ys ++ [y], by rw [List.length_append, List.length_singleton]; omega, upd_same, ?_, ?_⟩
      · rw [hid_upd]; exact fun b o e => hid_same s5 b o (sm b o e)
      · rw [hid_upd]; exact p5
    · exact ⟨n - (i + 1), by omega, rfl, hlt, ys, by omega, s4 _ _ eD, fun b o e => hid_same s4 b o (sm b o e), p4⟩
  · have e : i = n := by omega
    subst e
    exact .inl ⟨hst H' sm', hd ys σ H' p eD sm⟩
theorem comp_zip {K : PySem.W.Frag} {k1 k2 : Bool} {a b : Addr} {xs ys : List V} {g : TG} {ti : TT} {te : TE} {Fi : Hp → Prop} {σ1 : St} {H1 : Hp} {D : Addr} (hD : H1 D = none) (hz : xs.length < sizeLine) (hlen : xs.length = ys.length)
    (q1 : SqK k1 K H1 a xs) (q2 : SqK k2 K H1 b ys) (Pv : Nat → List V → St → Hp → Prop) (h0 : Pv 0 [] σ1 H1)
    (hs : ∀ i x y ls σ H' p, xs[i]? = some x → ys[i]? = some y → Pv i ls σ (hid D H') → H' D = some (.lst ls) → Same H1 (hid D H') → H' p = none → ∀ (Ry : St → V → Hp → Prop) (Rn : St → Hp → Prop),
      (∀ σ2 z H5, Same H' H5 → Pv (i + 1) (ls ++ [z]) σ2 (hid D H5) → Ry σ2 z H5) → (∀ σ2 H4, Same H' H4 → Pv (i + 1) ls σ2 (hid D H4) → Rn σ2 H4) →
      g (.ref p) σ (upd H' p (.tup [x, y])) fun σ2 H3 => ti σ2 H3 fun b H4 => if b = true then te σ2 H4 fun y H5 => Ry σ2 y H5 else Rn σ2 H4)
    (hd : ∀ ls σ H', Pv xs.length ls σ (hid D H') → H' D = some (.lst ls) → Same H1 (hid D H') → Fi H') :
    ∃ W : Nat → Nat → St → Hp → Prop, (∃ m, W 0 m σ1 (upd H1 D (.lst []))) ∧ ∀ i m σ' H', W i m σ' H' →
      ((Itz K k1 k2 a b).stop i H' ∧ Fi H') ∨ ((Itz K k1 k2 a b).go i H' ∧ ∀ x H2, (Itz K k1 k2 a b).yld i H' x H2 → g x σ' H2 fun σ2 H3 => ti σ2 H3 fun b H4 => if b = true then te σ2 H4 fun y H5 => ∃ ys, H5 D = some (.lst ys) ∧ ys.length < sizeLine ∧ ∃ m', m' < m ∧ W (i + 1) m' σ2 (upd H5 D (.lst (ys ++ [y])))
        else ∃ m', m' < m ∧ W (i + 1) m' σ2 H4) := by
  refine comp_any hD hz (fun i H' s hi => ⟨xs, ys, _, _, s.sqK q1, s.sqK q2, List.getElem?_eq_getElem hi, List.getElem?_eq_getElem (by omega)⟩) (fun H' s => ⟨xs, ys, s.sqK q1, s.sqK q2, .inl (Nat.le_refl _)⟩) Pv h0 (fun i ls σ H' x H2 hi y p e s s' Ry Rn r1 r2 => ?_) hd
  obtain ⟨q, u, v, hq, rfl, rfl, hx, hy⟩ := y
  exact hs i u v ls σ H' q (hx xs (s'.sqK q1)) (hy ys (s'.sqK q2)) p e s hq Ry Rn r1 r2
end L2


set_option Elab.async false
set_option linter.all false
set_option maxRecDepth 100000
set_option maxHeartbeats 4000000
namespace L2
open PySem PySem.Spec PyProof.Rows
theorem visCC {X : Cx} {N : List Str} {scope scope2 : Scope} {cl : List (Str × Addr)} {C : Addr} {s : Shared} {H : Hp} {fp : List Addr} {pins : List (Addr × Obj)} (h : ∀ y ∈ scope2.names, y.2 = .free → scope.names.lookup y.1 = some .free) :
    ∀ y ∈ scope2.names, y.2 = .free → (cxComp X N scope cl C s H fp pins).env.kindOf y.1 = some .cell ∨ (cxComp X N scope cl C s H fp pins).env.kindOf y.1 = some .free := fun y hy e => relabel_free (h y hy e)
section
variable {X : Cx} {K : PySem.W.Frag}
theorem call_listK (hK : X.K = K) : CallR X (.type "list") (fun xs H Q => ∃ p ys, xs = [.ref p] ∧ (SqL K H p ys ∨ SqT K H p ys) ∧ ∀ l, H l = none → Q (.ref l) (upd H l (.lst ys))) := hK ▸ call_list_of
theorem pi_listK {tg l : Expr} {tl : TE} (hK : X.K = K) (hl : PE X l tl) : PI X tg l (iList K tl) := hK ▸ pi_list hl
theorem op_eqL0 (hK : X.K = K) (hu : X.A.units < cLine) : OpR X (compareOp .Eq) (fun x y H Q => ∃ p q xs, x = .ref p ∧ y = .ref q ∧ SqL K H p xs ∧ SqL K H q [] ∧ Q (.bl xs.isEmpty) H) := by
  subst hK
  intro pins s σ H x y v u Q I rx ry h
  obtain ⟨p, q, xs, rfl, rfl, hx, hy, hq⟩ := h
  cases rx
  cases ry
  obtain ⟨its, r, pl, hz⟩ := I.list hx
  obtain ⟨its2, r2, pl2, hz2⟩ := I.list hy
  cases r2
  cases r with
  | nil =>
    refine SeqAt.eq_listAt (e := fun _ => true) pl.isList pl2.isList rfl hu (fun j h1 h2 => absurd h2 (Nat.not_lt_zero j)) ?_
    exact ⟨.bl true, H, I, rfl, hq⟩
  | cons a b =>
    refine SeqAt.eq_list_lengthsAt pl.isList pl2.isList rfl hu ?_
    exact ⟨.bl false, H, I, rfl, hq⟩
end
end L2


set_option Elab.async false
set_option linter.all false
set_option maxRecDepth 100000
set_option maxHeartbeats 4000000
namespace Pw
open PySem L2
seal PE PT PW PA PS PSs PG PGs PI PIf
def top (i : Nat) : Stmt := PySem.Challenge.pw_planwell_k18_tables_turned.main.body.getD i (.Pass ⟨0, 0, 0, 0⟩)
abbrev s_greatest_divisor : Stmt := top 4
abbrev s_fraction : Stmt := top 5
abbrev s_pivoted : Stmt := top 7
abbrev s_lowered : Stmt := top 8
abbrev s_value : Stmt := top 9
abbrev s_lat : Stmt := top 11
abbrev s_mixed : Stmt := top 12
abbrev s_lowest : Stmt := top 13
abbrev s_lplus : Stmt := top 14
abbrev s_ltimes : Stmt := top 15
abbrev s_order : Stmt := top 16
abbrev s_isf : Stmt := top 17
abbrev s_same : Stmt := top 18
abbrev s_number : Stmt := top 19
abbrev s_table : Stmt := top 20
abbrev s_place : Stmt := top 21
abbrev s_due : Stmt := top 22
abbrev s_good : Stmt := top 23
abbrev s_copied : Stmt := top 24
abbrev s_law : Stmt := top 25
structure DefAt (K : PySem.W.Frag) (mg : Str → Option Value) (x : Str) (st : Stmt) (f : Addr) (fd : FuncData) (ps : List Str) : Prop where
  F : Fun K x x st f fd
  b : Binds K fd ps []
  m : mg x = some (.ref f)
structure Blt (mg : Str → Option Value) : Prop where
  isinstance : mg "isinstance" = none
  int : mg "int" = none
  bool : mg "bool" = none
  tuple : mg "tuple" = none
  len : mg "len" = none
  abs : mg "abs" = none
  list : mg "list" = none
  range : mg "range" = none
  enumerate : mg "enumerate" = none
  zip : mg "zip" = none
def BIG : Nat := 2 ^ 8000
theorem lt_big {n k : Nat} (h : n < 2 ^ k) (hk : k ≤ 8000) : n < BIG := Nat.lt_of_lt_of_le h (Nat.pow_le_pow_right (by decide) hk)
theorem log2_of {n : Nat} (h : n < BIG) : n.log2 < 9000 := by
  rcases Nat.eq_zero_or_pos n with h0 | hp
  · rw [h0]; decide
  · have := (Nat.log2_lt (Nat.ne_of_gt hp)).mpr h
    omega
def gd (a b : Int) : Int := (Int.gcd a b : Int)
theorem gd_step {a b : Int} (ha : 0 ≤ a) (hb : 0 < b) : gd b (Int.fmod a b) = gd a b := by
  unfold gd
  rw [Int.fmod_eq_emod_of_nonneg _ (by omega)]
  obtain ⟨n, rfl⟩ := Int.eq_ofNat_of_zero_le ha
  obtain ⟨m, rfl⟩ := Int.eq_ofNat_of_zero_le (Int.le_of_lt hb)
  have e : ((n : Int) % (m : Int)) = ((n % m : Nat) : Int) := rfl
  rw [e]
  show ((Nat.gcd m (n % m) : Nat) : Int) = ((Nat.gcd n m : Nat) : Int)
  rw [Nat.gcd_comm n m, Nat.gcd_rec m n, Nat.gcd_comm]
theorem gd_zero {a : Int} (ha : 0 ≤ a) : gd a 0 = a := by
  unfold gd; rw [Int.gcd_zero_right]; omega
theorem gd_pos {a b : Int} (hb : 0 < b) : 0 < gd a b := by
  unfold gd
  have : 0 < Int.gcd a b := Int.gcd_pos_of_ne_zero_right a (by omega)
  omega
theorem gd_dvd_l (a b : Int) : gd a b ∣ a := Int.gcd_dvd_left ..
theorem gd_dvd_r (a b : Int) : gd a b ∣ b := Int.gcd_dvd_right ..
theorem gd_le {a b : Int} (hb : 0 < b) : gd a b ≤ b := Int.le_of_dvd hb (gd_dvd_r a b)
theorem fdiv_mul {a g : Int} (hg : 0 < g) (h : g ∣ a) : Int.fdiv a g * g = a := by
  rw [Int.fdiv_eq_ediv_of_nonneg _ (by omega)]
  exact Int.ediv_mul_cancel h
theorem gd_neg_l (a b : Int) : gd (-a) b = gd a b := by
  unfold gd; rw [Int.neg_gcd]
theorem gd_abs (a b : Int) : gd (if a < 0 then -a else a) b = gd a b := by
  split
  · exact gd_neg_l a b
  · rfl
theorem gd_mul {a b m : Int} (hm : 0 ≤ m) : gd (a * m) (b * m) = gd a b * m := by
  unfold gd
  rw [Int.gcd_mul_right]
  have : (m.natAbs : Int) = m := by omega
  rw [← this]; simp
theorem low {t b g : Int} (hb : 0 < b) (hg : g = gd t b) :
    0 < g ∧ 1 ≤ Int.fdiv b g ∧ Int.fdiv t g * b = t * Int.fdiv b g ∧ gd (Int.fdiv t g) (Int.fdiv b g) = 1 := by
  have g0 : 0 < g := hg ▸ gd_pos hb
  have ht := fdiv_mul g0 (hg ▸ gd_dvd_l t b)
  have hbb := fdiv_mul g0 (hg ▸ gd_dvd_r t b)
  generalize Int.fdiv t g = x at *
  generalize Int.fdiv b g = y at *
  refine ⟨g0, ?_, ?_, ?_⟩
  · rcases (by omega : 1 ≤ y ∨ y ≤ 0) with h | h
    · exact h
    · have := Int.mul_nonpos_of_nonpos_of_nonneg h (Int.le_of_lt g0)
      omega
  · rw [← ht, ← hbb]
    rw [Int.mul_assoc x g y, Int.mul_comm g y]
  · have := gd_mul (a := x) (b := y) (Int.le_of_lt g0)
    rw [ht, hbb, ← hg] at this
    have : (gd x y - 1) * g = 0 := by rw [Int.sub_mul, ← this]; omega
    rcases Int.mul_eq_zero.mp this with h | h
    · omega
    · omega
def ft (t b : Int) : Int := if b < 0 then Int.fdiv (-t) (gd (-t) (-b)) else Int.fdiv t (gd t b)
def fb (t b : Int) : Int := if b < 0 then Int.fdiv (-b) (gd (-t) (-b)) else Int.fdiv b (gd t b)
theorem frac_low {t b : Int} (hb : b ≠ 0) : 1 ≤ fb t b ∧ ft t b * b = t * fb t b ∧ gd (ft t b) (fb t b) = 1 := by
  unfold ft fb
  by_cases h : b < 0
  · rw [if_pos h, if_pos h]
    obtain ⟨_, a1, a2, a3⟩ := low (t := -t) (b := -b) (by omega) rfl
    refine ⟨a1, ?_, a3⟩
    have e1 : Int.fdiv (-t) (gd (-t) (-b)) * -b = -(Int.fdiv (-t) (gd (-t) (-b)) * b) := Int.mul_neg _ _
    have e2 : -t * Int.fdiv (-b) (gd (-t) (-b)) = -(t * Int.fdiv (-b) (gd (-t) (-b))) := Int.neg_mul _ _
    rw [e1, e2] at a2
    omega
  · rw [if_neg h, if_neg h]
    obtain ⟨_, a1, a2, a3⟩ := low (t := t) (b := b) (by omega) rfl
    exact ⟨a1, a2, a3⟩
theorem gd_log {t b : Int} (hb : 0 < b) (h : b.natAbs < BIG) : (gd t b).natAbs.log2 < 9000 := by
  refine log2_of (Nat.lt_of_le_of_lt ?_ h)
  have h1 := gd_le (a := t) hb
  have h2 := gd_pos (a := t) hb
  omega
theorem abs_nonneg (a : Int) : 0 ≤ (if a < 0 then -a else a) := by split <;> omega
theorem same_new {H : Hp} {p : Addr} (h : H p = none) (o : HO) : Same H (upd H p o) := fun b u q => by rw [upd_ne (ne_of_none q h)]; exact q
theorem Same.refl' {H : Hp} : Same H H := fun _ _ e => e
structure BadF (K : PySem.W.Frag) (mg : Str → Option Value) (C : Addr) : Prop where
  m : mg "BadFraction" = some (.ref C)
  e : PySem.W.excIn K C veB "ValueError.__new__" = true
structure DefD (K : PySem.W.Frag) (mg : Str → Option Value) (x : Str) (st : Stmt) (dV : Value) (f : Addr) (fd : FuncData) (ps : List Str) (ds : List Value) : Prop where
  F : FunD K x x st dV f fd
  b : Binds K fd ps []
  d : Binds K fd ps ds
  v : Vals [.int 1] ds
  m : mg x = some (.ref f)
theorem fdiv_abs {t g : Int} (hg : 0 < g) (h : g ∣ t) : (Int.fdiv t g).natAbs ≤ t.natAbs := by
  have e := fdiv_mul hg h
  generalize Int.fdiv t g = q at *
  subst e
  rw [Int.natAbs_mul]
  exact Nat.le_mul_of_pos_right _ (by omega)
theorem ft_abs {t b : Int} (hb : b ≠ 0) : (ft t b).natAbs ≤ t.natAbs := by
  unfold ft
  split
  · have := fdiv_abs (gd_pos (a := -t) (b := -b) (by omega)) (gd_dvd_l (-t) (-b))
    rw [Int.natAbs_neg] at this
    exact this
  · exact fdiv_abs (gd_pos (by omega)) (gd_dvd_l t b)
theorem fb_abs {t b : Int} (hb : b ≠ 0) : (fb t b).natAbs ≤ b.natAbs := by
  unfold fb
  split
  · have := fdiv_abs (gd_pos (a := -t) (b := -b) (by omega)) (gd_dvd_r (-t) (-b))
    rw [Int.natAbs_neg] at this
    exact this
  · exact fdiv_abs (gd_pos (by omega)) (gd_dvd_r t b)
abbrev Fq := Int × Int
def Red (a : Fq) : Prop := 1 ≤ a.2 ∧ gd a.1 a.2 = 1
def Fb (k : Nat) (a : Fq) : Prop := a.1.natAbs < 2 ^ k ∧ a.2.natAbs < 2 ^ k
def mkF (t b : Int) : Fq := (ft t b, fb t b)
theorem mk_red {t b : Int} (h : b ≠ 0) : Red (mkF t b) := by
  obtain ⟨a1, _, a3⟩ := frac_low (t := t) h
  exact ⟨a1, a3⟩
theorem mul_lt {a b : Int} {j k : Nat} (ha : a.natAbs < 2 ^ j) (hb : b.natAbs < 2 ^ k) : (a * b).natAbs < 2 ^ (j + k) := by
  rw [Int.natAbs_mul, Nat.pow_add]
  exact Nat.mul_lt_mul_of_lt_of_lt ha hb
theorem add_lt {a b : Int} {k : Nat} (ha : a.natAbs < 2 ^ k) (hb : b.natAbs < 2 ^ k) : (a + b).natAbs < 2 ^ (k + 1) := by
  have h1 := Int.natAbs_add_le a b
  rw [Nat.pow_succ]
  omega
theorem pow_up {n j k : Nat} (h : n < 2 ^ j) (hk : j ≤ k) : n < 2 ^ k := Nat.lt_of_lt_of_le h (Nat.pow_le_pow_right (by decide) hk)
theorem Fb.mono {j k : Nat} {a : Fq} (h : Fb j a) (hk : j ≤ k) : Fb k a := ⟨pow_up h.1 hk, pow_up h.2 hk⟩
theorem Fb.top {a b : Fq} {j k : Nat} (fa : Fb j a) (fb : Fb k b) : (a.1 * b.2 + b.1 * a.2).natAbs < 2 ^ (j + k + 1) := add_lt (mul_lt fa.1 fb.2) (by rw [Nat.add_comm j k]; exact mul_lt fb.1 fa.2)
theorem Fb.bot {a b : Fq} {j k : Nat} (fa : Fb j a) (fb : Fb k b) : (a.2 * b.2).natAbs < 2 ^ (j + k) := mul_lt fa.2 fb.2
theorem low_mk {t b : Int} (h : 0 < b) : (Int.fdiv t (gd t b), Int.fdiv b (gd t b)) = mkF t b := by
  unfold mkF ft fb
  rw [if_neg (by omega), if_neg (by omega)]
def Gd (k : Nat) (a : Fq) : Prop := Red a ∧ Fb k a
theorem Gd.mono {j k : Nat} {a : Fq} (h : Gd j a) (hk : j ≤ k) : Gd k a := ⟨h.1, h.2.mono hk⟩
theorem red_uniq {a b : Fq} (ha : Red a) (hb : Red b) (e : a.1 * b.2 = b.1 * a.2) : a = b := by
  obtain ⟨a1, a2⟩ := a
  obtain ⟨b1, b2⟩ := b
  obtain ⟨h1, g1⟩ := ha
  obtain ⟨h2, g2⟩ := hb
  simp only [gd] at h1 g1 h2 g2 e
  have g1' : Nat.gcd a2.natAbs a1.natAbs = 1 := by rw [Nat.gcd_comm]; unfold Int.gcd at g1; omega
  have g2' : Nat.gcd b2.natAbs b1.natAbs = 1 := by rw [Nat.gcd_comm]; unfold Int.gcd at g2; omega
  have e' : a1.natAbs * b2.natAbs = b1.natAbs * a2.natAbs := by rw [← Int.natAbs_mul, ← Int.natAbs_mul, e]
  have d1 : a2.natAbs ∣ b2.natAbs := Nat.Coprime.dvd_of_dvd_mul_left (k := a2.natAbs) (m := a1.natAbs) g1' ⟨b1.natAbs, by rw [e', Nat.mul_comm]⟩
  have d2 : b2.natAbs ∣ a2.natAbs := Nat.Coprime.dvd_of_dvd_mul_left (k := b2.natAbs) (m := b1.natAbs) g2' ⟨a1.natAbs, by rw [← e', Nat.mul_comm]⟩
  have q := Nat.dvd_antisymm d1 d2
  have q2 : a2 = b2 := by omega
  subst q2
  have : a1 = b1 := Int.eq_of_mul_eq_mul_right (by omega) e
  rw [this]
theorem mk_cross {t b : Int} (h : b ≠ 0) : (mkF t b).1 * b = t * (mkF t b).2 := (frac_low (t := t) h).2.1
theorem upd_new {H H1 : Hp} {p : Addr} {o : HO} (e : upd H p o = H1) (hp : H p = none) : Same H H1 ∧ H1 p = some o := e ▸ ⟨same_new hp o, upd_same⟩
theorem take_next {α : Type} {l : List α} {i : Nat} {x : α} (h : l[i]? = some x) : l.take (i + 1) = l.take i ++ [x] := by
  rw [List.take_succ, h]
  rfl
theorem pickL {xs : List V} {n : Nat} (hn : xs.length = n) (h0 : 0 < n) (c : Int) : ∃ v, atI xs (c % (n : Int)) = some v ∧ v ∈ xs := by
  have a := Int.emod_nonneg c (show (n : Int) ≠ 0 by omega)
  have b := Int.emod_lt_of_pos c (show (0 : Int) < n by omega)
  have e : c % (n : Int) = (((c % (n : Int)).toNat : Nat) : Int) := by omega
  have hj : (c % (n : Int)).toNat < xs.length := by omega
  refine ⟨xs[(c % (n : Int)).toNat], ?_, List.getElem_mem hj⟩
  have z : atI xs (((c % (n : Int)).toNat : Nat) : Int) = some xs[(c % (n : Int)).toNat] := atI_nat (by simp [hj])
  rw [← e] at z
  exact z
section
variable {P : Program} {w : World} {K : PySem.W.Frag} {mg : Str → Option Value} {base : Heap} {f : Addr} {fd : FuncData}
def spGd : Sp := fun vs H Q _ => ∃ a b : Int, vs = [.int a, .int b] ∧ 0 ≤ a ∧ 0 ≤ b ∧ Q (.int (gd a b)) H
theorem sc_greatest_divisor : FnScope ["one", "other", "rest"] ["one", "other"] (defScope s_greatest_divisor) := ⟨rfl, rfl, rfl, by decide +kernel, rfl, by decide +kernel, by decide +kernel⟩
theorem ok_greatest_divisor (F : Fun K "greatest_divisor" "greatest_divisor" s_greatest_divisor f fd) : FnOk P w K mg base CX0 1 f fd ["one", "other"] spGd := by
  refine F.ok sc_greatest_divisor (fun vs H Q E h => ?_) (fun cdv A outer s H vs Q E hr h => ?_)
  · obtain ⟨a, b, rfl, _⟩ := h
    rfl
  obtain ⟨a, b, rfl, ha, hb, q⟩ := h
  have nd := sc_greatest_divisor.nd
  refine ⟨_, pss_cons (ps_while PassesOwn.never (pt_cmpR op_ne (pv 1) pe_int (nomark _))
      (pss_cons (ps_set (i := 2) nd rfl (Or.inl rfl) (pe_op op_modN (pv 0) (pv 1)))
      (pss_cons (ps_set (i := 0) nd rfl (Or.inl rfl) (pv 1)) (pss_one (ps_set (i := 1) nd rfl (Or.inl rfl) (pv 2))))))
    (pss_one (ps_ret (pv 0))), ?_⟩
  refine ⟨fun m σ H' => H' = H ∧ ∃ (x y : Int) (z : Option V), σ = [some (.int x), some (.int y), z] ∧ 0 ≤ x ∧ 0 ≤ y ∧ gd x y = gd a b ∧ m = y.toNat, ⟨b.toNat, rfl, a, b, none, rfl, ha, hb, rfl, rfl⟩, ?_⟩
  rintro m σ H' ⟨rfl, x, y, z, rfl, hx, hy, eg, rfl⟩
  refine ⟨_, rfl, rfl, _, rfl, ?_⟩
  by_cases h0 : y = 0
  · subst h0
    refine iteN (neN rfl) ?_
    refine ⟨_, rfl, ?_⟩
    rw [gd_zero hx] at eg
    rw [eg]
    exact q
  · refine iteY (neY h0) ?_
    refine ⟨fun σ' H2 => H2 = H' ∧ σ' = [some (.int y), some (.int (x.fmod y)), some (.int (x.fmod y))], ?_, ?_⟩
    · rintro σ' H2 ⟨rfl, rfl⟩
      have yp : 0 < y := by omega
      have m1 := Int.fmod_nonneg_of_pos x yp
      have m2 := Int.fmod_lt_of_pos x yp
      exact ⟨(x.fmod y).toNat, by omega, rfl, y, x.fmod y, _, rfl, hy, m1, by rw [gd_step hx yp]; exact eg, rfl⟩
    · exact ⟨_, rfl, _, rfl, x, y, rfl, rfl, h0, _, rfl, _, rfl, rfl, rfl⟩
def spFracP (C : Addr) : Sp := fun vs H Q E => ∃ t b : Int, vs = [.int t, .int b] ∧ 0 ≤ b ∧ b.natAbs < BIG ∧ (b = 0 → E (.ref C) none H) ∧ (0 < b → ∀ p, H p = none → Q (.ref p) (upd H p (.tup [.int (Int.fdiv t (gd t b)), .int (Int.fdiv b (gd t b))])))
def spFrac (C : Addr) : Sp := fun vs H Q E => ∃ t b : Int, vs = [.int t, .int b] ∧ b.natAbs < BIG ∧ (b = 0 → E (.ref C) none H) ∧ (b ≠ 0 → ∀ p, H p = none → Q (.ref p) (upd H p (.tup [.int (ft t b), .int (fb t b)])))
theorem sc_fraction : FnScope ["top", "bottom", "divisor"] ["top", "bottom"] (defScope s_fraction) := ⟨rfl, rfl, rfl, by decide +kernel, rfl, by decide +kernel, by decide +kernel⟩
theorem ok_fractionP {fg C : Addr} {dg : FuncData} {dV : Value} (F : FunD K "fraction" "fraction" s_fraction dV f fd) (B : Blt mg) (G : DefAt K mg "greatest_divisor" s_greatest_divisor fg dg ["one", "other"]) (X : BadF K mg C) :
    FnOk P w K mg base (CXF P w) 2 f fd ["top", "bottom"] (spFracP C) := by
  have OG : FnOk P w K mg base (CXF P w) 1 fg dg ["one", "other"] spGd := (ok_greatest_divisor G.F).cxf _
  refine F.okX sc_fraction (fun vs H Q E h => ?_) (fun cdv A outer s H vs Q E hr h => ?_)
  · obtain ⟨t, b, rfl, _⟩ := h
    rfl
  obtain ⟨t, b, rfl, hb, hz, h0, h1⟩ := h
  have nd := sc_fraction.nd
  refine ⟨_, pss_cons (ps_if (pt_cmpR op_eq (pv 1) pe_int (nomark _)) (pss_one (ps_raise rfl raises_fn X.e rfl X.m (pa_cons pe_str pa_nil))) pss_nil)
    (pss_cons (ps_if (pt_cmpR op_lt (pv 1) pe_int (nomark _)) pss_never pss_nil)
    (pss_cons (ps_set (i := 2) nd rfl (Or.inl rfl) (pe_callS OG hr rfl G.m G.F.kp G.b .nil passes_fn (pa_cons (pe_callB call_abs rfl B.abs bt_abs (pa_cons (pv 0) pa_nil)) (pa_cons (pv 1) pa_nil))))
    (pss_one (ps_ret (pe_tup (pa_cons (pe_op op_fdivB (pv 0) (pv 2)) (pa_cons (pe_op op_fdivB (pv 1) (pv 2)) pa_nil))))))), ?_⟩
  refine ⟨_, rfl, rfl, _, rfl, ?_⟩
  by_cases z : b = 0
  · subst z
    refine iteT ?_
    exact ⟨by show 1 ≤ sizeLine; decide, h0 rfl⟩
  · refine iteN (eqN z) ?_
    refine ⟨_, rfl, _, _, rfl, rfl, _, rfl, ?_⟩
    refine iteN (decide_eq_false (by omega)) ?_
    have bp : 0 < b := by omega
    refine ⟨_, rfl, t, rfl, _, rfl, _, b, rfl, abs_nonneg t, hb, ?_⟩
    rw [gd_abs]
    have g0 := gd_pos (a := t) bp
    have gl := gd_log (t := t) bp hz
    refine ⟨_, rfl, _, rfl, t, _, rfl, rfl, ⟨by omega, gl⟩, _, rfl, _, rfl, b, _, rfl, rfl, ⟨by omega, gl⟩, (by show 2 ≤ sizeLine; decide), fun p hp => h1 bp p hp⟩
theorem ok_fraction {fg C : Addr} {dg : FuncData} {dV : Value} {ds : List Value} (D : DefD K mg "fraction" s_fraction dV f fd ["top", "bottom"] ds) (B : Blt mg) (G : DefAt K mg "greatest_divisor" s_greatest_divisor fg dg ["one", "other"]) (X : BadF K mg C) :
    FnOk P w K mg base (CXF P w) 3 f fd ["top", "bottom"] (spFrac C) := by
  have OG : FnOk P w K mg base (CXF P w) 2 fg dg ["one", "other"] spGd := ((ok_greatest_divisor G.F).cxf _).mono (by decide)
  have OP : FnOk P w K mg base (CXF P w) 2 f fd ["top", "bottom"] (spFracP C) := ok_fractionP D.F B G X
  refine D.F.okX sc_fraction (fun vs H Q E h => ?_) (fun cdv A outer s H vs Q E hr h => ?_)
  · obtain ⟨t, b, rfl, _⟩ := h
    rfl
  obtain ⟨t, b, rfl, hz, h0, h1⟩ := h
  have nd := sc_fraction.nd
  refine ⟨_, pss_cons (ps_if (pt_cmpR op_eq (pv 1) pe_int (nomark _)) (pss_one (ps_raise rfl raises_fn X.e rfl X.m (pa_cons pe_str pa_nil))) pss_nil)
    (pss_cons (ps_if (pt_cmpR op_lt (pv 1) pe_int (nomark _)) (pss_one (ps_ret (pe_callS OP hr rfl D.m D.F.kp D.b .nil passes_fn (pa_cons (pe_un un_neg (pv 0)) (pa_cons (pe_un un_neg (pv 1)) pa_nil))))) pss_nil)
    (pss_cons (ps_set (i := 2) nd rfl (Or.inl rfl) (pe_callS OG hr rfl G.m G.F.kp G.b .nil passes_fn (pa_cons (pe_callB call_abs rfl B.abs bt_abs (pa_cons (pv 0) pa_nil)) (pa_cons (pv 1) pa_nil))))
    (pss_one (ps_ret (pe_tup (pa_cons (pe_op op_fdivB (pv 0) (pv 2)) (pa_cons (pe_op op_fdivB (pv 1) (pv 2)) pa_nil))))))), ?_⟩
  refine ⟨_, rfl, rfl, _, rfl, ?_⟩
  by_cases z : b = 0
  · subst z
    refine iteT ?_
    exact ⟨by show 1 ≤ sizeLine; decide, h0 rfl⟩
  · refine iteN (eqN z) ?_
    refine ⟨_, rfl, _, _, rfl, rfl, _, rfl, ?_⟩
    have h1' := h1 z
    unfold ft fb at h1'
    by_cases n : b < 0
    · rw [if_pos n, if_pos n] at h1'
      refine iteY (decide_eq_true n) ?_
      exact ⟨_, rfl, t, rfl, _, rfl, b, rfl, -t, -b, rfl, by omega, by omega, fun q => by omega, fun _ => h1'⟩
    · rw [if_neg n, if_neg n] at h1'
      refine iteN (decide_eq_false n) ?_
      have bp : 0 < b := by omega
      refine ⟨_, rfl, t, rfl, _, rfl, _, b, rfl, abs_nonneg t, by omega, ?_⟩
      rw [gd_abs]
      have g0 := gd_pos (a := t) bp
      have gl := gd_log (t := t) bp hz
      refine ⟨_, rfl, _, rfl, t, _, rfl, rfl, ⟨by omega, gl⟩, _, rfl, _, rfl, b, _, rfl, rfl, ⟨by omega, gl⟩, (by show 2 ≤ sizeLine; decide), fun p hp => h1' p hp⟩
end
end Pw


set_option Elab.async false
set_option linter.all false
set_option maxRecDepth 100000
set_option maxHeartbeats 4000000
namespace Pw
open PySem L2
seal PE PT PW PA PS PSs PG PGs PI PIf
def IsF (K : PySem.W.Frag) (H : Hp) (v : V) (a : Fq) : Prop := ∃ p, v = .ref p ∧ SqT K H p [.int a.1, .int a.2]
section
variable {K : PySem.W.Frag} {H H' : Hp} {v : V} {a : Fq} {D : Addr} {ys : List V}
theorem IsF.same (e : Same H H') (h : IsF K H v a) : IsF K H' v a := let ⟨p, x, y⟩ := h; ⟨p, x, e.seqT y⟩
theorem IsF.hid (e : H D = some (.lst ys)) (h : IsF K H v a) : IsF K (hid D H) v a := let ⟨p, x, y⟩ := h; ⟨p, x, y.hid e⟩
theorem IsF.new {p : Addr} (hp : H p = none) : IsF K (upd H p (.tup [.int a.1, .int a.2])) (.ref p) a := ⟨p, rfl, SqT.of upd_same⟩
theorem fs_same {vs : List V} {as : List Fq} (e : Same H H') (h : Paired (IsF K H) vs as) : Paired (IsF K H') vs as := Paired.mapP h fun _ _ q => q.same e
end
theorem mf {x y : Int} {j k : Nat} (h : j + k ≤ 4000) (hx : x.natAbs < 2 ^ j) (hy : y.natAbs < 2 ^ k) : CMulF x y := ⟨j + k, by omega, pow_up hx (Nat.le_add_right _ _), pow_up hy (Nat.le_add_left _ _)⟩
theorem ifS_jn {c : TT} {t u : TS} {D : Ends} {σ : St} {H : Hp} {b : Bool} (J : St → Hp → Prop) (hc : Tells c σ H b) (h1 : b = true → ∀ H', Same H H' → ∀ Dn : St → Hp → Prop, (∀ σ' H', J σ' H' → Dn σ' H') → t { D with nx := Dn } σ H') (h0 : b = false → ∀ H', Same H H' → ∀ Dn : St → Hp → Prop, (∀ σ' H', J σ' H' → Dn σ' H') → u { D with nx := Dn } σ H')
    (hJ : ∀ σ' H', J σ' H' → D.nx σ' H') : tIfS c t u D σ H := ifS_by hc (fun e H' s => h1 e H' s D.nx hJ) (fun e H' s => h0 e H' s D.nx hJ)
theorem rng_at {n i : Nat} {x : V} (h : ((List.range n).map fun (k : Nat) => V.int (0 + k))[i]? = some x) : x = .int (0 + (i : Int)) ∧ i < n := by
  rw [List.getElem?_map] at h
  by_cases hi : i < n
  · rw [List.getElem?_range hi] at h
    exact ⟨(Option.some.inj h).symm, hi⟩
  · rw [List.getElem?_eq_none (by simpa using hi)] at h
    cases h
theorem vmem {P' : Int → Prop} {xs : List V} (h : ∀ x ∈ xs, ∃ i, x = .int i ∧ P' i) {v : V} (hv : v ∈ xs) : ∃ i, v = .int i ∧ P' i := h v hv
section
variable {P : Program} {w : World} {K : PySem.W.Frag} {mg : Str → Option Value} {base : Heap} {f : Addr} {fd : FuncData}
def spCell (K : PySem.W.Frag) : Sp := fun vs H Q _ => ∃ (a : Addr) (ns : List Int) (k : Int), vs = [.ref a, .int k] ∧ SqL K H a (ns.map V.int) ∧ (∀ i ∈ ns, Few i) ∧ 0 ≤ k ∧ ∀ n : Int, Few n → Q (.int n) H
theorem sc_lat : FnScope ["_law_script", "_law_k"] ["_law_script", "_law_k"] (defScope s_lat) := ⟨rfl, rfl, rfl, by decide +kernel, rfl, by decide +kernel, by decide +kernel⟩
theorem ok_lat (F : Fun K "_law_at" "_law_at" s_lat f fd) (B : Blt mg) : FnOk P w K mg base CX0 1 f fd ["_law_script", "_law_k"] (spCell K) := by
  refine F.ok sc_lat (fun vs H Q E h => ?_) (fun cdv A outer s H vs Q E hr h => ?_)
  · obtain ⟨a, ns, k, rfl, _⟩ := h
    rfl
  obtain ⟨a, ns, k, rfl, hS, few, hk, q⟩ := h
  refine ⟨_, pss_cons (ps_if (pt_cmpR op_lt (pv 1) (pe_callB call_len_seq rfl B.len bt_len (pa_cons (pv 0) pa_nil)) (nomark _)) (pss_one (ps_ret (pe_ix ix_list (pv 0) (pv 1) (fun _ _ => rfl)))) pss_nil) (pss_one (ps_ret pe_int)), ?_⟩
  refine ⟨_, rfl, _, rfl, a, _, rfl, .inl hS, _, _, rfl, rfl, _, rfl, ?_⟩
  refine ite2 (fun c => ?_) (fun c => ?_)
  · have c' : k < (((ns.map V.int).length : Nat) : Int) := of_decide_eq_true c
    rw [List.length_map] at c'
    have hk' : k.toNat < ns.length := by omega
    have ek : k = ((k.toNat : Nat) : Int) := by omega
    have z : atI (ns.map V.int) ((k.toNat : Nat) : Int) = some (.int ns[k.toNat]) := atI_nat (by rw [List.getElem?_map, List.getElem?_eq_getElem hk'] <;> rfl)
    rw [← ek] at z
    exact ⟨_, rfl, _, rfl, a, _, _, _, rfl, rfl, hS, z, q _ (few _ (List.getElem_mem hk'))⟩
  · exact q 0 (by unfold Few; decide)
def spMx : Sp := fun vs H Q _ => ∃ c k : Int, vs = [.int c, .int k] ∧ 0 ≤ k ∧ k ≤ 1000 ∧ ∀ n : Int, 0 ≤ n → n < 2147483647 → Q (.int n) H
theorem sc_mixed : FnScope ["_law_cell", "_law_k", "_law_number_here"] ["_law_cell", "_law_k"] (defScope s_mixed) := ⟨rfl, rfl, rfl, by decide +kernel, rfl, by decide +kernel, by decide +kernel⟩
theorem lk_mixed__law_cell : (defScope s_mixed).names.lookup ("_law_cell" : Str) = some .local := by decide +kernel
theorem lk_mixed__law_k : (defScope s_mixed).names.lookup ("_law_k" : Str) = some .local := by decide +kernel
theorem lk_mixed__law_number_here : (defScope s_mixed).names.lookup ("_law_number_here" : Str) = some .local := by decide +kernel
theorem ok_mixed (F : Fun K "_law_mixed" "_law_mixed" s_mixed f fd) : FnOk P w K mg base CX0 1 f fd ["_law_cell", "_law_k"] spMx := by
  refine F.ok sc_mixed (fun vs H Q E h => ?_) (fun cdv A outer s H vs Q E hr h => ?_)
  · obtain ⟨c, k, rfl, _⟩ := h
    rfl
  obtain ⟨c, k, rfl, k0, k1, q⟩ := h
  have nd := sc_mixed.nd
  refine ⟨_, pss_cons (ps_set (i := 2) nd rfl (Or.inl lk_mixed__law_number_here) (pe_op op_mod (pe_op op_mul (pe_op op_add (pe_op op_add (pe_op op_mod (pv 0 rfl (Or.inl lk_mixed__law_cell)) (pe_int)) (pe_op op_mul (pe_op op_mul (pe_int) (pv 1 rfl (Or.inl lk_mixed__law_k))) (pv 1 rfl (Or.inl lk_mixed__law_k)))) (pe_int)) (pe_int)) (pe_int)))
    (pss_one (ps_ret (pe_op op_fdiv (pe_op op_mod (pe_op op_mul (pv 2 rfl (Or.inl lk_mixed__law_number_here)) (pv 2 rfl (Or.inl lk_mixed__law_number_here))) (pe_int)) (pe_int)))), ?_⟩
  refine ⟨_, rfl, _, _, rfl, rfl, (by show (0 : Int) < 2147483647; decide), _, rfl, _, _, rfl, rfl, .inl ⟨by decide, by decide⟩, _, rfl, _, _, rfl, rfl, .inr ⟨by omega, by omega⟩, _, _, rfl, rfl, _, _, rfl, rfl, _, _, rfl, rfl, .inr ⟨by decide, by decide⟩, _, _, rfl, rfl, (by show (0 : Int) < 2147483647; decide), ?_⟩
  have a0 := Int.emod_nonneg ((c % 2147483647 + 7919 * k * k + 3) * 48271) (show (2147483647 : Int) ≠ 0 by decide)
  have a1 := Int.emod_lt_of_pos ((c % 2147483647 + 7919 * k * k + 3) * 48271) (show (0 : Int) < 2147483647 by decide)
  try dsimp only
  generalize (c % 2147483647 + 7919 * k * k + 3) * 48271 % 2147483647 = n at a0 a1 ⊢
  refine ⟨_, rfl, _, rfl, _, _, rfl, rfl, .inl ⟨by omega, by omega⟩, _, _, rfl, rfl, (by show (0 : Int) < 2147483629; decide), _, _, rfl, rfl, ⟨by decide, by decide⟩, q _ ?_ ?_⟩
  · exact Int.ediv_nonneg (Int.emod_nonneg _ (by decide)) (by decide)
  · have b0 := Int.emod_nonneg (n * n) (show (2147483629 : Int) ≠ 0 by decide)
    have b1 := Int.emod_lt_of_pos (n * n) (show (0 : Int) < 2147483629 by decide)
    have := Int.ediv_le_self 4 b0
    omega
theorem gd_comm (a b : Int) : gd a b = gd b a := by unfold gd; rw [Int.gcd_comm]
def spLes (K : PySem.W.Frag) : Sp := fun vs H Q _ => ∃ t b : Int, vs = [.int t, .int b] ∧ 0 < b ∧ b.natAbs < BIG ∧ ∀ r H', Same H H' → IsF K H' r (mkF t b) → Q r H'
theorem sc_lowest : FnScope ["_law_top", "_law_bottom", "_law_one", "_law_other"] ["_law_top", "_law_bottom"] (defScope s_lowest) := ⟨rfl, rfl, rfl, by decide +kernel, rfl, by decide +kernel, by decide +kernel⟩
theorem lk_lowest__law_top : (defScope s_lowest).names.lookup ("_law_top" : Str) = some .local := by decide +kernel
theorem lk_lowest__law_bottom : (defScope s_lowest).names.lookup ("_law_bottom" : Str) = some .local := by decide +kernel
theorem lk_lowest__law_one : (defScope s_lowest).names.lookup ("_law_one" : Str) = some .local := by decide +kernel
theorem lk_lowest__law_other : (defScope s_lowest).names.lookup ("_law_other" : Str) = some .local := by decide +kernel
theorem lk_lowest_abs : (defScope s_lowest).names.lookup ("abs" : Str) = some .globalImplicit := by decide +kernel
theorem ok_lowest (F : Fun K "_law_lowest" "_law_lowest" s_lowest f fd) (B : Blt mg) : FnOk P w K mg base CX0 1 f fd ["_law_top", "_law_bottom"] (spLes K) := by
  refine F.ok sc_lowest (fun vs H Q E h => ?_) (fun cdv A outer s H vs Q E hr h => ?_)
  · obtain ⟨_, _, rfl, _⟩ := h
    rfl
  obtain ⟨t, b, rfl, hb, bb, q⟩ := h
  have nd := sc_lowest.nd
  refine ⟨_, pss_cons (ps_par (i := 2) (j := 3) rfl nd rfl rfl (by decide) lk_lowest__law_one lk_lowest__law_other (pa_Name (pv 1 rfl (Or.inl lk_lowest__law_bottom)) (pa_Call (pe_callB call_abs lk_lowest_abs B.abs bt_abs (pa_Name (pv 0 rfl (Or.inl lk_lowest__law_top)) pa_nil)) pa_nil)) rfl)
    (pss_cons (ps_while PassesOwn.never (pt_cmpR op_gt (pv 3 rfl (Or.inl lk_lowest__law_other)) (pe_int) (nomark _)) (pss_one (ps_par (i := 2) (j := 3) rfl nd rfl rfl (by decide) lk_lowest__law_one lk_lowest__law_other (pa_Name (pv 3 rfl (Or.inl lk_lowest__law_other)) (pa_BinOp (pe_op op_modN (pv 2 rfl (Or.inl lk_lowest__law_one)) (pv 3 rfl (Or.inl lk_lowest__law_other))) pa_nil)) rfl)))
    (pss_one (ps_ret (pe_tup (pa_BinOp (pe_op op_fdivB (pv 0 rfl (Or.inl lk_lowest__law_top)) (pv 2 rfl (Or.inl lk_lowest__law_one))) (pa_BinOp (pe_op op_fdivB (pv 1 rfl (Or.inl lk_lowest__law_bottom)) (pv 2 rfl (Or.inl lk_lowest__law_one))) pa_nil)))))), ?_⟩
  refine ⟨_, rfl, _, rfl, t, rfl, _, _, rfl, ?_⟩
  have ha : 0 ≤ (if t < 0 then -t else t) := abs_nonneg t
  have eg0 : gd b (if t < 0 then -t else t) = gd t b := by rw [gd_comm, gd_abs t b]
  generalize (if t < 0 then -t else t) = a at ha eg0 ⊢ -- nd
  refine ⟨fun m σ H' => H' = H ∧ ∃ (x y : Int), σ = [some (.int t), some (.int b), some (.int x), some (.int y)] ∧ 0 < x ∧ 0 ≤ y ∧ gd x y = gd t b ∧ True ∧ m = y.toNat, ⟨a.toNat, rfl, b, a, rfl, hb, ha, eg0, trivial, rfl⟩, ?_⟩
  rintro m σ H' ⟨rfl, x, y, rfl, hx, hy, eg, _, rfl⟩
  refine ⟨_, rfl, _, _, rfl, rfl, _, rfl, ?_⟩
  by_cases h0 : y = 0
  · subst h0
    refine iteN (decide_eq_false (by omega)) ?_
    rw [gd_zero (by omega)] at eg
    subst eg
    have gl : (gd t b).natAbs.log2 < 9000 := gd_log hb bb
    refine ⟨_, rfl, _, rfl, _, _, rfl, rfl, ⟨by omega, gl⟩, _, rfl, _, rfl, _, _, rfl, rfl, ⟨by omega, gl⟩, ?_⟩
    refine ⟨(by show 2 ≤ sizeLine; decide), fun p hz_p => ?_⟩
    generalize hH_ : upd _ p _ = H1
    obtain ⟨s1, e1⟩ := upd_new hH_ hz_p
    clear hH_
    refine q _ H1 s1 ⟨p, rfl, SqT.of ?_⟩
    rw [← low_mk hb]
    exact e1
  · have yp : 0 < y := by omega
    refine iteY (decide_eq_true yp) ?_
    refine ⟨fun σ' H2 => H2 = H' ∧ σ' = [some (.int t), some (.int b), some (.int y), some (.int (x.fmod y))], ?_, ?_⟩
    · rintro σ' H2 ⟨rfl, rfl⟩
      have m1 := Int.fmod_nonneg_of_pos x yp
      have m2 := Int.fmod_lt_of_pos x yp
      exact ⟨(x.fmod y).toNat, by omega, rfl, y, x.fmod y, rfl, yp, m1, (by rw [gd_step (by omega) yp]; exact eg), trivial, rfl⟩
    · exact ⟨_, rfl, _, rfl, _, rfl, x, y, rfl, rfl, h0, _, _, rfl, rfl, rfl⟩
def rPl (a b : Fq) : Fq := (a.1 * b.2 + b.1 * a.2, a.2 * b.2)
def rTi (a b : Fq) : Fq := (a.1 * b.1, a.2 * b.2)
def spRaw (K : PySem.W.Frag) (g : Fq → Fq → Fq) : Sp := fun vs H Q _ => ∃ u v a b j k, vs = [u, v] ∧ IsF K H u a ∧ IsF K H v b ∧ Fb j a ∧ Fb k b ∧ j + k ≤ 4000 ∧ ∀ r H', Same H H' → IsF K H' r (g a b) → Q r H'
def spOrd (K : PySem.W.Frag) : Sp := fun vs H Q _ => ∃ u v a b j k, vs = [u, v] ∧ IsF K H u a ∧ IsF K H v b ∧ Fb j a ∧ Fb k b ∧ j + k ≤ 4000 ∧ Q (.int (a.1 * b.2 - b.1 * a.2)) H
theorem sc_lplus : FnScope ["_law_one", "_law_other"] ["_law_one", "_law_other"] (defScope s_lplus) := ⟨rfl, rfl, rfl, by decide +kernel, rfl, by decide +kernel, by decide +kernel⟩
theorem lk_lplus__law_one : (defScope s_lplus).names.lookup ("_law_one" : Str) = some .local := by decide +kernel
theorem lk_lplus__law_other : (defScope s_lplus).names.lookup ("_law_other" : Str) = some .local := by decide +kernel
theorem ok_lplus (F : Fun K "_law_plus" "_law_plus" s_lplus f fd) : FnOk P w K mg base CX0 1 f fd ["_law_one", "_law_other"] (spRaw K rPl) := by
  refine F.ok sc_lplus (fun vs H Q E h => ?_) (fun cdv A outer s H vs Q E hr h => ?_)
  · obtain ⟨_, _, _, _, _, _, rfl, _⟩ := h
    rfl
  obtain ⟨_, _, a, b, j, k, rfl, ⟨p, rfl, hp⟩, ⟨q, rfl, hq⟩, ga, gb, hjk, h1⟩ := h
  have hkj : k + j ≤ 4000 := by omega
  refine ⟨_, pss_one (ps_ret (pe_tup (pa_BinOp (pe_op op_add (pe_op op_mulF (pe_ix ix_tup (pv 0 rfl (Or.inl lk_lplus__law_one)) (pe_int) (fun _ _ => rfl)) (pe_ix ix_tup (pv 1 rfl (Or.inl lk_lplus__law_other)) (pe_int) (fun _ _ => rfl))) (pe_op op_mulF (pe_ix ix_tup (pv 1 rfl (Or.inl lk_lplus__law_other)) (pe_int) (fun _ _ => rfl)) (pe_ix ix_tup (pv 0 rfl (Or.inl lk_lplus__law_one)) (pe_int) (fun _ _ => rfl)))) (pa_BinOp (pe_op op_mulF (pe_ix ix_tup (pv 0 rfl (Or.inl lk_lplus__law_one)) (pe_int) (fun _ _ => rfl)) (pe_ix ix_tup (pv 1 rfl (Or.inl lk_lplus__law_other)) (pe_int) (fun _ _ => rfl))) pa_nil)))), ?_⟩
  refine ⟨_, rfl, p, _, _, _, rfl, rfl, hp, rfl, _, rfl, q, _, _, _, rfl, rfl, hq, rfl, _, _, rfl, rfl, mf hjk ga.1 gb.2, _, rfl, q, _, _, _, rfl, rfl, hq, rfl, _, rfl, p, _, _, _, rfl, rfl, hp, rfl, _, _, rfl, rfl, mf hkj gb.1 ga.2, _, _, rfl, rfl, _, rfl, p, _, _, _, rfl, rfl, hp, rfl, _, rfl, q, _, _, _, rfl, rfl, hq, rfl, _, _, rfl, rfl, mf hjk ga.2 gb.2, ?_⟩
  refine ⟨(by show 2 ≤ sizeLine; decide), fun t hz_t => ?_⟩
  generalize hH_ : upd _ t _ = H1
  obtain ⟨s1, e1⟩ := upd_new hH_ hz_t
  clear hH_
  exact h1 _ H1 s1 ⟨t, rfl, SqT.of e1⟩
theorem sc_ltimes : FnScope ["_law_one", "_law_other"] ["_law_one", "_law_other"] (defScope s_ltimes) := ⟨rfl, rfl, rfl, by decide +kernel, rfl, by decide +kernel, by decide +kernel⟩
theorem lk_ltimes__law_one : (defScope s_ltimes).names.lookup ("_law_one" : Str) = some .local := by decide +kernel
theorem lk_ltimes__law_other : (defScope s_ltimes).names.lookup ("_law_other" : Str) = some .local := by decide +kernel
theorem ok_ltimes (F : Fun K "_law_times" "_law_times" s_ltimes f fd) : FnOk P w K mg base CX0 1 f fd ["_law_one", "_law_other"] (spRaw K rTi) := by
  refine F.ok sc_ltimes (fun vs H Q E h => ?_) (fun cdv A outer s H vs Q E hr h => ?_)
  · obtain ⟨_, _, _, _, _, _, rfl, _⟩ := h
    rfl
  obtain ⟨_, _, a, b, j, k, rfl, ⟨p, rfl, hp⟩, ⟨q, rfl, hq⟩, ga, gb, hjk, h1⟩ := h
  refine ⟨_, pss_one (ps_ret (pe_tup (pa_BinOp (pe_op op_mulF (pe_ix ix_tup (pv 0 rfl (Or.inl lk_ltimes__law_one)) (pe_int) (fun _ _ => rfl)) (pe_ix ix_tup (pv 1 rfl (Or.inl lk_ltimes__law_other)) (pe_int) (fun _ _ => rfl))) (pa_BinOp (pe_op op_mulF (pe_ix ix_tup (pv 0 rfl (Or.inl lk_ltimes__law_one)) (pe_int) (fun _ _ => rfl)) (pe_ix ix_tup (pv 1 rfl (Or.inl lk_ltimes__law_other)) (pe_int) (fun _ _ => rfl))) pa_nil)))), ?_⟩
  refine ⟨_, rfl, p, _, _, _, rfl, rfl, hp, rfl, _, rfl, q, _, _, _, rfl, rfl, hq, rfl, _, _, rfl, rfl, mf hjk ga.1 gb.1, _, rfl, p, _, _, _, rfl, rfl, hp, rfl, _, rfl, q, _, _, _, rfl, rfl, hq, rfl, _, _, rfl, rfl, mf hjk ga.2 gb.2, ?_⟩
  refine ⟨(by show 2 ≤ sizeLine; decide), fun t hz_t => ?_⟩
  generalize hH_ : upd _ t _ = H1
  obtain ⟨s1, e1⟩ := upd_new hH_ hz_t
  clear hH_
  exact h1 _ H1 s1 ⟨t, rfl, SqT.of e1⟩
theorem sc_order : FnScope ["_law_one", "_law_other"] ["_law_one", "_law_other"] (defScope s_order) := ⟨rfl, rfl, rfl, by decide +kernel, rfl, by decide +kernel, by decide +kernel⟩
theorem lk_order__law_one : (defScope s_order).names.lookup ("_law_one" : Str) = some .local := by decide +kernel
theorem lk_order__law_other : (defScope s_order).names.lookup ("_law_other" : Str) = some .local := by decide +kernel
theorem ok_order (F : Fun K "_law_order" "_law_order" s_order f fd) : FnOk P w K mg base CX0 1 f fd ["_law_one", "_law_other"] (spOrd K) := by
  refine F.ok sc_order (fun vs H Q E h => ?_) (fun cdv A outer s H vs Q E hr h => ?_)
  · obtain ⟨_, _, _, _, _, _, rfl, _⟩ := h
    rfl
  obtain ⟨_, _, a, b, j, k, rfl, ⟨p, rfl, hp⟩, ⟨q, rfl, hq⟩, ga, gb, hjk, h1⟩ := h
  have hkj : k + j ≤ 4000 := by omega
  refine ⟨_, pss_one (ps_ret (pe_op op_sub (pe_op op_mulF (pe_ix ix_tup (pv 0 rfl (Or.inl lk_order__law_one)) (pe_int) (fun _ _ => rfl)) (pe_ix ix_tup (pv 1 rfl (Or.inl lk_order__law_other)) (pe_int) (fun _ _ => rfl))) (pe_op op_mulF (pe_ix ix_tup (pv 1 rfl (Or.inl lk_order__law_other)) (pe_int) (fun _ _ => rfl)) (pe_ix ix_tup (pv 0 rfl (Or.inl lk_order__law_one)) (pe_int) (fun _ _ => rfl))))), ?_⟩
  exact ⟨_, rfl, p, _, _, _, rfl, rfl, hp, rfl, _, rfl, q, _, _, _, rfl, rfl, hq, rfl, _, _, rfl, rfl, mf hjk ga.1 gb.2, _, rfl, q, _, _, _, rfl, rfl, hq, rfl, _, rfl, p, _, _, _, rfl, rfl, hp, rfl, _, _, rfl, rfl, mf hkj gb.1 ga.2, _, _, rfl, rfl, h1⟩
theorem mk_self {a : Fq} (h : Red a) : mkF a.1 a.2 = a := red_uniq (mk_red (by have := h.1; omega)) h (mk_cross (by have := h.1; omega))
def spIF (K : PySem.W.Frag) : Sp := fun vs H Q _ => ∃ v a, vs = [v] ∧ IsF K H v a ∧ Gd 2000 a ∧ ∀ H', Same H H' → Q (.bl true) H'
theorem sc_isf : FnScope ["_law_found"] ["_law_found"] (defScope s_isf) := ⟨rfl, rfl, rfl, by decide +kernel, rfl, by decide +kernel, by decide +kernel⟩
theorem lk_isf__law_found : (defScope s_isf).names.lookup ("_law_found" : Str) = some .local := by decide +kernel
theorem lk_isf__law_lowest : (defScope s_isf).names.lookup ("_law_lowest" : Str) = some .globalImplicit := by decide +kernel
theorem lk_isf_isinstance : (defScope s_isf).names.lookup ("isinstance" : Str) = some .globalImplicit := by decide +kernel
theorem lk_isf_len : (defScope s_isf).names.lookup ("len" : Str) = some .globalImplicit := by decide +kernel
theorem lk_isf_tuple : (defScope s_isf).names.lookup ("tuple" : Str) = some .globalImplicit := by decide +kernel
theorem ok_isf {fDLo : Addr} {dDLo : FuncData} (F : Fun K "_law_is_fraction" "_law_is_fraction" s_isf f fd) (B : Blt mg) (DLo : DefAt K mg "_law_lowest" s_lowest fDLo dDLo ["_law_top", "_law_bottom"]) : FnOk P w K mg base CX0 2 f fd ["_law_found"] (spIF K) := by
  have OL : FnOk P w K mg base CX0 1 fDLo dDLo ["_law_top", "_law_bottom"] (spLes K) := ok_lowest DLo.F B
  refine F.ok sc_isf (fun vs H Q E h => ?_) (fun cdv A outer s H vs Q E hr h => ?_)
  · obtain ⟨_, _, rfl, _⟩ := h
    rfl
  obtain ⟨_, a, rfl, ⟨p, rfl, hp⟩, ga, k⟩ := h
  have nd := sc_isf.nd
  have hu0 := Nat.lt_of_le_of_lt (Nat.le_succ _) (hu_of hr)
  refine ⟨_, pss_cons (ps_if (PW.pt (pw_or (pt_not (pt_val (pe_callB (call_isiTup (K := K) rfl) lk_isf_isinstance B.isinstance bt_isinstance (pa_Name (pv 0 rfl (Or.inl lk_isf__law_found)) (pa_Name (pe_bltn (v := .ty "tuple") lk_isf_tuple B.tuple bt_tuple rfl) pa_nil))))) (pw_or1 (pt_cmpR op_ne (pe_callB call_len_seq lk_isf_len B.len bt_len (pa_Name (pv 0 rfl (Or.inl lk_isf__law_found)) pa_nil)) (pe_int) (nomark _))))) (pss_one (ps_ret (pe_bl))) (pss_nil))
    (pss_cons (ps_if (pt_cmpR (op_neLF (K := K) rfl hu0) (pe_comp rfl (frees_of ["_law_number_here"] [] ["_law_found"] (by decide +kernel)) (noFree rfl) (by decide +kernel) rfl (by decide +kernel) (fun y hy => PySem.mem_of_lookup hy) (pi_tup (pv 0 rfl (Or.inl lk_isf__law_found))) (fun cl C s H fp pins => pg_name (i := 0) (show (["_law_number_here"] : List Str).Nodup by decide +kernel) rfl (Or.inl (c_loc (by decide +kernel))) (.inr (c_loc (by decide +kernel)))) (fun cl C s H fp pins => pif_one (PW.pt (pw_or (pt_not (pt_val (pe_callB (call_isi (K := K) rfl) (c_gl (by decide +kernel)) B.isinstance bt_isinstance (pa_Name (pv 0 rfl (c_vloc (by decide +kernel))) (pa_Name (pe_bltn (v := .ty "int") (c_gl (by decide +kernel)) B.int bt_int rfl) pa_nil))))) (pw_or1 (pt_val (pe_callB (call_isi (K := K) rfl) (c_gl (by decide +kernel)) B.isinstance bt_isinstance (pa_Name (pv 0 rfl (c_vloc (by decide +kernel))) (pa_Name (pe_bltn (v := .ty "bool") (c_gl (by decide +kernel)) B.bool bt_bool rfl) pa_nil)))))))) (fun cl C s H fp pins => pv 0 rfl (c_vloc (by decide +kernel)))) (pe_lst pa_nil) (nomark _)) (pss_one (ps_ret (pe_bl))) (pss_nil))
    (pss_one (ps_ret (pe_and (pe_cmpR op_gt (pe_ix ix_tup (pv 0 rfl (Or.inl lk_isf__law_found)) (pe_int) (fun _ _ => rfl)) (pe_int) (nomark _)) (pe_one (pe_cmpR (op_eqTF hu0) (pe_call OL hr lk_isf__law_lowest DLo.m DLo.F.kp DLo.b .nil pass0 (pa_Subscript (pe_ix ix_tup (pv 0 rfl (Or.inl lk_isf__law_found)) (pe_int) (fun _ _ => rfl)) (pa_Subscript (pe_ix ix_tup (pv 0 rfl (Or.inl lk_isf__law_found)) (pe_int) (fun _ _ => rfl)) pa_nil))) (pv 0 rfl (Or.inl lk_isf__law_found)) (nomark _))))))), ?_⟩
  dsimp only [tSeq]
  refine ifS_by (b := (false || false)) (Tells.or (fun R hR => ⟨_, rfl, p, _, rfl, hp, _, rfl, hR _ Same.refl'⟩) fun _ H1 s1 R hR => ⟨_, rfl, p, _, rfl, .inr (s1.seqT hp), rfl, _, rfl, hR _ Same.refl'⟩) (fun z => absurd z (by decide)) (fun _ H1 s1 => ?_)
  have hp1 := s1.seqT hp
  dsimp only [tSeq, tNext]
  refine ifS_by (b := false) (fun R hR => ?_) (fun z => absurd z (by decide)) (fun _ H2 s2 => ?_)
  · refine ⟨_, rfl, p, rfl, ⟨_, hp1⟩, fun D hD => ?_⟩
    refine comp_same (J := Itt K p) (xs := [V.int a.1, .int a.2]) hD (by show 2 < sizeLine; decide) (goT hp1) (stT hp1) (yT hp1) (fun i ys σ G => (∃ k : Option V, σ = [k]) ∧ ys = []) ⟨⟨none, rfl⟩, rfl⟩ (fun i x ys σ H2 hx hq eD sm Ry Rn r1 r2 => ?_) (fun ys σ H2 hq eD sm => ?_)
    · obtain ⟨⟨k0, rfl⟩, rfl⟩ := hq
      obtain ⟨n, rfl⟩ : ∃ n, x = .int n := by
        rcases i with _ | _ | i
        · exact ⟨_, (Option.some.inj hx).symm⟩
        · exact ⟨_, (Option.some.inj hx).symm⟩
        · cases hx
      refine ⟨_, rfl, .int n, .ty "int", .type "int", true, rfl, rfl, .of (.int n), rfl, true, rfl, ?_⟩
      refine iteN rfl ?_
      refine ⟨_, rfl, .int n, .ty "bool", .type "int", false, rfl, rfl, .of (.int n), rfl, false, rfl, ?_⟩
      refine iteN rfl ?_
      exact r2 _ H2 Same.refl' ⟨⟨_, rfl⟩, rfl⟩
    · obtain ⟨_, rfl⟩ := hq
      refine ⟨(by show 0 ≤ sizeLine; decide), fun l hz_l => ?_⟩
      generalize hH_ : upd _ l _ = H3
      obtain ⟨s3, e3⟩ := upd_new hH_ hz_l
      clear hH_
      exact ⟨D, l, [], [], rfl, rfl, SqL.of (s3 _ _ eD), SqL.of e3, rfl, rfl, false, rfl, hR _ ((sm.trans hid_le).trans s3)⟩
  have hp2 := s2.seqT hp1
  refine ⟨_, rfl, p, _, _, _, rfl, rfl, hp2, rfl, _, _, rfl, rfl, true, (by show V.bl (decide (0 < a.2)) = _; rw [decide_eq_true (show (0 : Int) < a.2 from by have := ga.1.1; omega)]), iteT ?_⟩
  refine ⟨_, rfl, p, _, _, _, rfl, rfl, hp2, rfl, _, rfl, p, _, _, _, rfl, rfl, hp2, rfl, ?_⟩
  refine ⟨_, _, rfl, by have := ga.1.1; omega, lt_big ga.2.2 (by decide), fun r H3 s3 f3 => ?_⟩
  obtain ⟨t, rfl, ht⟩ := f3
  rw [mk_self ga.1] at ht
  refine ⟨_, rfl, t, p, _, _, rfl, rfl, ht, s3.seqT hp2, rfl, rfl, ?_⟩
  have : eqVs [V.int a.1, .int a.2] [V.int a.1, .int a.2] = true := by
    show (a.1 == a.1 && (a.2 == a.2 && true)) = true
    rw [beq_self_eq_true, beq_self_eq_true]
    rfl
  rw [this]
  exact k _ (s1.trans (s2.trans s3))
def spSa (K : PySem.W.Frag) : Sp := fun vs H Q _ => ∃ u v a b, vs = [u, v] ∧ IsF K H u a ∧ IsF K H v b ∧ Gd 2000 a ∧ Fb 2000 b ∧ a.1 * b.2 = b.1 * a.2 ∧ ∀ H', Same H H' → Q (.bl true) H'
theorem sc_same : FnScope ["_law_found", "_law_due_here"] ["_law_found", "_law_due_here"] (defScope s_same) := ⟨rfl, rfl, rfl, by decide +kernel, rfl, by decide +kernel, by decide +kernel⟩
theorem lk_same__law_found : (defScope s_same).names.lookup ("_law_found" : Str) = some .local := by decide +kernel
theorem lk_same__law_due_here : (defScope s_same).names.lookup ("_law_due_here" : Str) = some .local := by decide +kernel
theorem lk_same__law_is_fraction : (defScope s_same).names.lookup ("_law_is_fraction" : Str) = some .globalImplicit := by decide +kernel
theorem lk_same__law_order : (defScope s_same).names.lookup ("_law_order" : Str) = some .globalImplicit := by decide +kernel
theorem ok_same {fDLo fDIF fDOr : Addr} {dDLo dDIF dDOr : FuncData} (F : Fun K "_law_same" "_law_same" s_same f fd) (B : Blt mg) (DLo : DefAt K mg "_law_lowest" s_lowest fDLo dDLo ["_law_top", "_law_bottom"]) (DIF : DefAt K mg "_law_is_fraction" s_isf fDIF dDIF ["_law_found"]) (DOr : DefAt K mg "_law_order" s_order fDOr dDOr ["_law_one", "_law_other"]) : FnOk P w K mg base CX0 3 f fd ["_law_found", "_law_due_here"] (spSa K) := by
  have OI : FnOk P w K mg base CX0 2 fDIF dDIF ["_law_found"] (spIF K) := ok_isf DIF.F B DLo
  have OO : FnOk P w K mg base CX0 1 fDOr dDOr ["_law_one", "_law_other"] (spOrd K) := ok_order DOr.F
  refine F.ok sc_same (fun vs H Q E h => ?_) (fun cdv A outer s H vs Q E hr h => ?_)
  · obtain ⟨_, _, _, _, rfl, _⟩ := h
    rfl
  obtain ⟨u, v, a, b, rfl, hu, hv, ga, fb, e, k⟩ := h
  have nd := sc_same.nd
  have hr1 : Room 1 _ := hr.mono (by decide)
  refine ⟨_, pss_one (ps_ret (pe_and (pe_call OI hr lk_same__law_is_fraction DIF.m DIF.F.kp DIF.b .nil pass0 (pa_Name (pv 0 rfl (Or.inl lk_same__law_found)) pa_nil)) (pe_one (pe_cmpR op_eq (pe_call OO hr1 lk_same__law_order DOr.m DOr.F.kp DOr.b .nil pass0 (pa_Name (pv 0 rfl (Or.inl lk_same__law_found)) (pa_Name (pv 1 rfl (Or.inl lk_same__law_due_here)) pa_nil))) (pe_int) (nomark _))))), ?_⟩
  refine ⟨_, rfl, u, a, rfl, hu, ga, fun H1 s1 => ⟨true, rfl, iteT ?_⟩⟩
  refine ⟨_, rfl, _, rfl, u, v, a, b, 2000, 2000, rfl, hu.same s1, hv.same s1, ga.2, fb, by decide, rfl, ?_⟩
  rw [eqY (by omega)]
  exact k _ s1
def spNu : Sp := fun vs H Q _ => ∃ n : Int, vs = [.int n] ∧ ∀ (m : Int) H', m.natAbs ≤ 1000000000 → Same H H' → Q (.int m) H'
theorem sc_number : FnScope ["_law_number_here", "_law_most"] ["_law_number_here"] (defScope s_number) := ⟨rfl, rfl, rfl, by decide +kernel, rfl, by decide +kernel, by decide +kernel⟩
theorem lk_number__law_number_here : (defScope s_number).names.lookup ("_law_number_here" : Str) = some .local := by decide +kernel
theorem lk_number__law_most : (defScope s_number).names.lookup ("_law_most" : Str) = some .local := by decide +kernel
theorem lk_number_int : (defScope s_number).names.lookup ("int" : Str) = some .globalImplicit := by decide +kernel
theorem ok_number (F : Fun K "_law_number" "_law_number" s_number f fd) (B : Blt mg) : FnOk P w K mg base CX0 1 f fd ["_law_number_here"] spNu := by
  refine F.ok sc_number (fun vs H Q E h => ?_) (fun cdv A outer s H vs Q E hr h => ?_)
  · obtain ⟨_, rfl, _⟩ := h
    rfl
  obtain ⟨n, rfl, q⟩ := h
  have nd := sc_number.nd
  refine ⟨_, pss_cons (ps_set (i := 1) nd rfl (Or.inl lk_number__law_most) (pe_ix ix_list (pe_lst (pa_Constant (pe_int) (pa_Constant (pe_int) (pa_Constant (pe_int) (pa_Constant (pe_int) pa_nil))))) (pe_op op_mod (pv 0 rfl (Or.inl lk_number__law_number_here)) (pe_int)) (fun _ _ => rfl)))
    (pss_one (ps_ret (pe_op op_mul (pe_op op_sub (pe_op op_mod (pe_op op_fdiv (pv 0 rfl (Or.inl lk_number__law_number_here)) (pe_int)) (pe_op op_add (pe_op op_mul (pe_int) (pv 1 rfl (Or.inl lk_number__law_most))) (pe_int))) (pv 1 rfl (Or.inl lk_number__law_most))) (pe_callTy call_int1 lk_number_int B.int bt_int (pa_BoolOp (pe_or (pe_cmpR op_eq (pe_op op_mod (pe_op op_fdiv (pv 0 rfl (Or.inl lk_number__law_number_here)) (pe_int)) (pe_int)) (pe_int) (nomark _)) (pe_one (pe_cmpR op_gt (pe_op op_mod (pv 0 rfl (Or.inl lk_number__law_number_here)) (pe_int)) (pe_int) (nomark _)))) pa_nil))))), ?_⟩
  refine ⟨(by show 4 ≤ sizeLine; decide), fun l1 hz_l1 => ?_⟩
  generalize hH_ : upd _ l1 _ = H1
  obtain ⟨s1, e1⟩ := upd_new hH_ hz_l1
  clear hH_
  obtain ⟨v1, ev1, m1⟩ := pickL (xs := [V.int 9, .int 9, .int 99, .int 999999999]) (n := 4) rfl (by decide) n
  obtain ⟨mo, rfl, hm⟩ := vmem (P' := fun i => 0 < i ∧ i ≤ 999999999) (by intro x hx; simp only [List.mem_cons, List.not_mem_nil, or_false] at hx; rcases hx with rfl | rfl | rfl | rfl <;> exact ⟨_, rfl, by decide, by decide⟩) m1
  refine ⟨_, rfl, _, _, rfl, rfl, (by show (0 : Int) < 4; decide), l1, _, _, _, rfl, rfl, SqL.of e1, ev1, ?_⟩
  refine ⟨_, rfl, _, _, rfl, rfl, ⟨by decide, by decide⟩, _, rfl, _, _, rfl, rfl, .inl ⟨by decide, by decide⟩, _, _, rfl, rfl, _, _, rfl, rfl, (by show (0 : Int) < 2 * mo + 1; omega), _, rfl, _, _, rfl, rfl, ?_⟩
  have t0 := Int.emod_nonneg (n / 8) (show 2 * mo + 1 ≠ 0 by omega)
  have t1 := Int.emod_lt_of_pos (n / 8) (show 0 < 2 * mo + 1 by omega)
  try dsimp only
  generalize n / 8 % (2 * mo + 1) = tp at t0 t1 ⊢
  have fin : ∀ b : Bool, rI CMul (fun i j => .int (i * j)) (.int (tp - mo)) (.int (if b = true then 1 else 0)) H1 Q := fun b => by
    refine ⟨_, _, rfl, rfl, .inl ⟨by omega, by omega⟩, ?_⟩
    cases b
    · exact q _ H1 (by show ((tp - mo) * 0).natAbs ≤ _; rw [Int.mul_zero]; decide) s1
    · exact q _ H1 (by show ((tp - mo) * 1).natAbs ≤ _; rw [Int.mul_one]; omega) s1
  refine ⟨_, rfl, _, _, rfl, rfl, ⟨by decide, by decide⟩, _, _, rfl, rfl, (by show (0 : Int) < 2; decide), rfl, _, rfl, ?_⟩
  refine ite2 (fun _ => ?_) (fun _ => ?_)
  · exact .inr ⟨_, rfl, fin true⟩
  · exact ⟨_, rfl, _, _, rfl, rfl, (by show (0 : Int) < 3; decide), _, _, rfl, rfl, .inr ⟨_, rfl, fin _⟩⟩
end
end Pw


set_option Elab.async false
set_option linter.all false
set_option maxRecDepth 100000
set_option maxHeartbeats 4000000
namespace Pw
open PySem L2
seal PE PT PW PA PS PSs PG PGs PI PIf
def e0 : Hp := fun _ => none
theorem e0_same (H : Hp) : Same e0 H := fun _ _ e => by cases e
def RowAt (B H : Hp) (v : V) (ns : List Int) : Prop := ∃ r, v = .ref r ∧ B r = none ∧ H r = some (.lst (ns.map V.int))
def RowsF (B H : Hp) (l : Addr) (rows : List (List Int)) : Prop := ∃ rv, B l = none ∧ H l = some (.lst rv) ∧ Paired (RowAt B H) rv rows
def TabF (B H : Hp) (p : Addr) (rows : List (List Int)) (sc : Int) : Prop := ∃ l, H p = some (.tup [.ref l, .int sc]) ∧ RowsF B H l rows
def FrAt (K : PySem.W.Frag) (B H : Hp) (v : V) (as : List Fq) : Prop := ∃ r fv, v = .ref r ∧ B r = none ∧ H r = some (.lst fv) ∧ Paired (IsF K H) fv as
def FrF (K : PySem.W.Frag) (B H : Hp) (l : Addr) (frs : List (List Fq)) : Prop := ∃ rv, B l = none ∧ H l = some (.lst rv) ∧ Paired (FrAt K B H) rv frs
section
variable {K : PySem.W.Frag} {B B' H H' : Hp} {v : V} {ns : List Int} {rows : List (List Int)} {l p r : Addr} {sc : Int} {as : List Fq} {frs : List (List Fq)} {o o' : HO} {ys : List V}
theorem RowAt.same (e : Same H H') (h : RowAt B H v ns) : RowAt B H' v ns := let ⟨r, a, b, c⟩ := h; ⟨r, a, b, e _ _ c⟩
theorem RowsF.same (e : Same H H') (h : RowsF B H l rows) : RowsF B H' l rows := let ⟨rv, a, b, c⟩ := h; ⟨rv, a, e _ _ b, Paired.mapP c fun _ _ q => q.same e⟩
theorem TabF.same (e : Same H H') (h : TabF B H p rows sc) : TabF B H' p rows sc := let ⟨l, a, b⟩ := h; ⟨l, e _ _ a, b.same e⟩
theorem FrAt.same (e : Same H H') (h : FrAt K B H v as) : FrAt K B H' v as := let ⟨r, fv, a, b, c, d⟩ := h; ⟨r, fv, a, b, e _ _ c, fs_same e d⟩
theorem FrF.same (e : Same H H') (h : FrF K B H l frs) : FrF K B H' l frs := let ⟨rv, a, b, c⟩ := h; ⟨rv, a, e _ _ b, Paired.mapP c fun _ _ q => q.same e⟩
theorem RowAt.base (e : Same B' B) (h : RowAt B H v ns) : RowAt B' H v ns := let ⟨r, a, b, c⟩ := h; ⟨r, a, e.free b, c⟩
theorem RowsF.base (e : Same B' B) (h : RowsF B H l rows) : RowsF B' H l rows := let ⟨rv, a, b, c⟩ := h; ⟨rv, e.free a, b, Paired.mapP c fun _ _ q => q.base e⟩
theorem TabF.base (e : Same B' B) (h : TabF B H p rows sc) : TabF B' H p rows sc := let ⟨l, a, b⟩ := h; ⟨l, a, b.base e⟩
theorem FrAt.base (e : Same B' B) (h : FrAt K B H v as) : FrAt K B' H v as := let ⟨r, fv, a, b, c, d⟩ := h; ⟨r, fv, a, e.free b, c, d⟩
theorem FrF.base (e : Same B' B) (h : FrF K B H l frs) : FrF K B' H l frs := let ⟨rv, a, b, c⟩ := h; ⟨rv, e.free a, b, Paired.mapP c fun _ _ q => q.base e⟩
theorem ne_base (h : B l = none) (h' : B r = some o) : l ≠ r := fun z => by rw [z, h'] at h; cases h
theorem RowAt.upd (e : B r = some o) (h : RowAt B H v ns) : RowAt B (L2.upd H r o') v ns := let ⟨x, a, b, c⟩ := h; ⟨x, a, b, by rw [upd_ne (ne_base b e)]; exact c⟩
theorem RowsF.upd (e : B r = some o) (h : RowsF B H l rows) : RowsF B (L2.upd H r o') l rows := let ⟨rv, a, b, c⟩ := h; ⟨rv, a, by rw [upd_ne (ne_base a e)]; exact b, Paired.mapP c fun _ _ q => q.upd e⟩
theorem TabF.upd (e : B r = some o) (e2 : H r = some (.lst ys)) (h : TabF B H p rows sc) : TabF B (L2.upd H r o') p rows sc := let ⟨l, a, b⟩ := h; ⟨l, by rw [upd_ne (ne_of a e2 (fun z => nomatch z))]; exact a, b.upd e⟩
theorem SqT.updL {K : PySem.W.Frag} {H : Hp} {p l : Addr} {xs ys : List V} {o : HO} (e : H l = some (.lst ys)) (h : SqT K H p xs) : SqT K (upd H l o) p xs := by
  rcases h with (h | ⟨u, h⟩) | h
  · refine .inl (.inl ?_)
    rw [upd_ne (ne_of h e (fun z => nomatch z))]; exact h
  · refine .inl (.inr ⟨u, ?_⟩)
    rw [upd_ne (ne_of h e (fun z => nomatch z))]; exact h
  · exact .inr h
theorem IsF.updL {K : PySem.W.Frag} {H : Hp} {v : V} {a : Fq} {l : Addr} {ys : List V} {o : HO} (e : H l = some (.lst ys)) (h : IsF K H v a) : IsF K (upd H l o) v a := let ⟨p, x, y⟩ := h; ⟨p, x, SqT.updL e y⟩
theorem FrAt.upd (e : B r = some o) (e2 : H r = some (.lst ys)) (h : FrAt K B H v as) : FrAt K B (L2.upd H r o') v as := let ⟨x, fv, a, b, c, d⟩ := h; ⟨x, fv, a, b, by rw [upd_ne (ne_base b e)]; exact c, Paired.mapP d fun _ _ q => q.updL e2⟩
theorem FrF.upd (e : B r = some o) (e2 : H r = some (.lst ys)) (h : FrF K B H l frs) : FrF K B (L2.upd H r o') l frs := let ⟨rv, a, b, c⟩ := h; ⟨rv, a, by rw [upd_ne (ne_base a e)]; exact b, Paired.mapP c fun _ _ q => q.upd e e2⟩
end
def bdR (k : Nat) (r : List Int) : Prop := ∀ x ∈ r, x.natAbs < 2 ^ k
structure Tb (n m k : Nat) (rows : List (List Int)) : Prop where
  hn : rows.length = n
  hm : ∀ r ∈ rows, r.length = m
  hb : ∀ r ∈ rows, bdR k r
  nm : 0 < n ∧ n ≤ 4 ∧ 0 < m ∧ m ≤ 5
theorem int_at {ns : List Int} {j : Nat} (h : j < ns.length) : atI (ns.map V.int) (j : Int) = some (.int (ns.getD j 0)) := atI_nat (by rw [List.getElem?_map, List.getElem?_eq_getElem h]; simp [h])
theorem row_at {B H : Hp} {rv : List V} {rows : List (List Int)} (h : Paired (RowAt B H) rv rows) {i : Nat} (hi : i < rows.length) : ∃ r, atI rv (i : Int) = some (.ref r) ∧ B r = none ∧ H r = some (.lst ((rows.getD i []).map V.int)) := by
  have hl : rv.length = rows.length := Paired.length h
  obtain ⟨r, e, b, c⟩ := pair_get h i _ _ (List.getElem?_eq_getElem (by omega)) (List.getElem?_eq_getElem hi)
  refine ⟨r, ?_, b, ?_⟩
  · rw [← e]; exact atI_nat (List.getElem?_eq_getElem (by omega))
  · rw [show rows.getD i [] = rows[i] by simp [hi]]; exact c
theorem getD_mem' {α : Type} {l : List α} {i : Nat} {d : α} (h : i < l.length) : l.getD i d ∈ l := by
  rw [show l.getD i d = l[i] by simp [h]]
  exact List.getElem_mem h
section
variable {P : Program} {w : World} {K : PySem.W.Frag} {mg : Str → Option Value} {base : Heap} {f : Addr} {fd : FuncData}
def spTab (K : PySem.W.Frag) : Sp := fun vs H Q _ => ∃ (a : Addr) (ns : List Int), vs = [.ref a] ∧ SqL K H a (ns.map V.int) ∧ (∀ i ∈ ns, Few i) ∧ ∀ p rows sc n m H', Same H H' → TabF H H' p rows sc → Tb n m 31 rows → 0 < sc → sc.natAbs < 2 ^ 31 → Q (.ref p) H'
theorem sc_table : FnScope ["_law_script", "_law_cell", "_law_rows", "_law_at_here"] ["_law_script"] (defScope s_table) := ⟨rfl, rfl, rfl, by decide +kernel, rfl, by decide +kernel, by decide +kernel⟩
theorem lk_table__law_script : (defScope s_table).names.lookup ("_law_script" : Str) = some .cell := by decide +kernel
theorem lk_table__law_cell : (defScope s_table).names.lookup ("_law_cell" : Str) = some .local := by decide +kernel
theorem lk_table__law_rows : (defScope s_table).names.lookup ("_law_rows" : Str) = some .local := by decide +kernel
theorem lk_table__law_at_here : (defScope s_table).names.lookup ("_law_at_here" : Str) = some .cell := by decide +kernel
theorem lk_table__law_at : (defScope s_table).names.lookup ("_law_at" : Str) = some .globalImplicit := by decide +kernel
theorem lk_table_range : (defScope s_table).names.lookup ("range" : Str) = some .globalImplicit := by decide +kernel
theorem ok_table {fDAt fDMx fDNu : Addr} {dDAt dDMx dDNu : FuncData} (F : Fun K "_law_table" "_law_table" s_table f fd) (B : Blt mg) (DAt : DefAt K mg "_law_at" s_lat fDAt dDAt ["_law_script", "_law_k"]) (DMx : DefAt K mg "_law_mixed" s_mixed fDMx dDMx ["_law_cell", "_law_k"]) (DNu : DefAt K mg "_law_number" s_number fDNu dDNu ["_law_number_here"]) : FnOk P w K mg base CX0 2 f fd ["_law_script"] (spTab K) := by
  have OA : FnOk P w K mg base CX0 1 fDAt dDAt ["_law_script", "_law_k"] (spCell K) := ok_lat DAt.F B
  have OM : FnOk P w K mg base CX0 1 fDMx dDMx ["_law_cell", "_law_k"] spMx := ok_mixed DMx.F
  have ON : FnOk P w K mg base CX0 1 fDNu dDNu ["_law_number_here"] spNu := ok_number DNu.F B
  refine F.ok sc_table (fun vs H Q E h => ?_) (fun cdv A outer s H vs Q E hr h => ?_)
  · obtain ⟨_, _, rfl, _⟩ := h
    rfl
  obtain ⟨a, ns, rfl, hS, few, q⟩ := h
  have nd := sc_table.nd
  refine ⟨_, pss_cons (ps_set (i := 1) nd rfl (Or.inl lk_table__law_cell) (pe_call OA hr lk_table__law_at DAt.m DAt.F.kp DAt.b .nil pass0 (pa_Name (pv 0 rfl (Or.inr (Or.inl lk_table__law_script))) (pa_Constant (pe_int) pa_nil))))
    (pss_cons (ps_set (i := 2) nd rfl (Or.inl lk_table__law_rows) (pe_lst pa_nil))
    (pss_cons (ps_for PassesOwn.never rfl (pi_range1 lk_table_range B.range (pa_BinOp (pe_op op_add (pe_int) (pe_op op_mod (pv 1 rfl (Or.inl lk_table__law_cell)) (pe_int))) pa_nil)) (pg_name (i := 3) nd rfl (Or.inr lk_table__law_at_here)) (pss_one (ps_expr (pe_bm PySem.F.plainAttrs_list PySem.F.slot_list_append PySem.F.type_list_append mt_append (pv 2 rfl (Or.inl lk_table__law_rows)) (pa_ListComp (pe_comp rfl (frees_of ["_law_k"] [("_law_script", 0), ("_law_at_here", 3)] ["_law_script", "_law_cell", "_law_rows", "_law_at_here"] (by decide +kernel)) (visC s_table (by decide +kernel)) (by decide +kernel) rfl (by decide +kernel) (fun y hy => PySem.mem_of_lookup hy) (pi_range1 lk_table_range B.range (pa_BinOp (pe_op op_add (pe_int) (pe_op op_mod (pe_op op_fdiv (pv 1 rfl (Or.inl lk_table__law_cell)) (pe_int)) (pe_int))) pa_nil)) (fun cl C s H fp pins => pg_name (i := 0) (show (["_law_k", "_law_script", "_law_at_here"] : List Str).Nodup by decide +kernel) rfl (Or.inl (c_loc (by decide +kernel))) (.inr (c_loc (by decide +kernel)))) (fun cl C s H fp pins => pif_nil) (fun cl C s H fp pins => pe_call ON hr (c_gl (by decide +kernel)) DNu.m DNu.F.kp DNu.b .nil pass0 (pa_Call (pe_call OM hr (c_gl (by decide +kernel)) DMx.m DMx.F.kp DMx.b .nil pass0 (pa_Call (pe_call OA hr (c_gl (by decide +kernel)) DAt.m DAt.F.kp DAt.b .nil pass0 (pa_Name (pv 1 rfl (c_free (by decide +kernel))) (pa_BinOp (pe_op op_add (pe_int) (pv 2 rfl (c_free (by decide +kernel)))) pa_nil))) (pa_Name (pv 0 rfl (c_vloc (by decide +kernel))) pa_nil))) pa_nil))) pa_nil)))))
    (pss_one (ps_ret (pe_tup (pa_Name (pv 2 rfl (Or.inl lk_table__law_rows)) (pa_Subscript (pe_ix ix_list (pe_lst (pa_Constant (pe_int) (pa_BinOp (pe_op op_add (pe_int) (pe_op op_mod (pe_op op_fdiv (pv 1 rfl (Or.inl lk_table__law_cell)) (pe_int)) (pe_int))) (pa_BinOp (pe_op op_add (pe_int) (pe_op op_mod (pe_op op_fdiv (pv 1 rfl (Or.inl lk_table__law_cell)) (pe_int)) (pe_op op_pow (pe_int) (pe_int)))) pa_nil)))) (pe_op op_mod (pe_op op_fdiv (pv 1 rfl (Or.inl lk_table__law_cell)) (pe_int)) (pe_int)) (fun _ _ => rfl)) pa_nil))))))), ?_⟩
  refine ⟨_, rfl, a, ns, 0, rfl, hS, few, by decide, fun c _ => ?_⟩
  refine ⟨(by show 0 ≤ sizeLine; decide), fun rp n1 => ?_⟩
  generalize hH_ : upd _ rp _ = H1
  obtain ⟨s1, e1⟩ := upd_new hH_ n1
  clear hH_
  have n0 := Int.emod_nonneg c (show (4 : Int) ≠ 0 by decide)
  have n4 := Int.emod_lt_of_pos c (show (0 : Int) < 4 by decide)
  have m0 := Int.emod_nonneg (c / 4) (show (5 : Int) ≠ 0 by decide)
  have m5 := Int.emod_lt_of_pos (c / 4) (show (0 : Int) < 5 by decide)
  refine ⟨_, rfl, _, _, rfl, rfl, (by show (0 : Int) < 4; decide), _, _, rfl, rfl, 1 + c % 4, rfl, by omega, by omega, ?_⟩
  refine for_range (fun i σ H' => ∃ (k : Option V) (rv : List V) (rows : List (List Int)), σ = [some (.ref a), some (.int c), some (.ref rp), k] ∧ Same H (hid rp H') ∧ H' rp = some (.lst rv) ∧ Paired (RowAt H (hid rp H')) rv rows ∧ rows.length = i ∧ (∀ r ∈ rows, r.length = (1 + c / 4 % 5).toNat) ∧ ∀ r ∈ rows, bdR 31 r)
    ⟨none, [], [], rfl, (fun b o e => by rw [hid_ne (ne_of_none e n1)]; exact s1 b o e), e1, .nil, rfl, by simp, by simp⟩ (fun i σ H' hi h => ?_) (fun σ H' h => ?_)
  · obtain ⟨k, rv, rows, rfl, sm, er, pr, rl, rm, rb⟩ := h
    have sA : Same H H' := sm.trans hid_le
    have hi4 : i < 4 := by omega
    refine ⟨_, rfl, .inl ⟨rfl, _, SqL.of er⟩, ?_⟩
    refine ⟨_, rfl, _, _, rfl, rfl, ⟨by decide, by decide⟩, _, _, rfl, rfl, (by show (0 : Int) < 5; decide), _, _, rfl, rfl, 1 + c / 4 % 5, rfl, by omega, by omega, fun D hD => ?_⟩
    have nDr : D ≠ rp := fun z => by rw [z, er] at hD; cases hD
    refine comp_same (J := Itr 0 (1 + c / 4 % 5).toNat) (xs := (List.range (1 + c / 4 % 5).toNat).map fun (k : Nat) => V.int (0 + k)) hD (by simp [sizeLine_eq]; omega) goR stR yR (fun j ys σ G => (∃ k : Option V, σ = [k, some (.ref a), some (.int (0 + (i : Int)))]) ∧ ∃ xs : List Int, ys = xs.map V.int ∧ xs.length = j ∧ bdR 31 xs)
      ⟨⟨none, rfl⟩, [], rfl, rfl, by intro x hx; cases hx⟩ (fun j x ys σ H2 hx hp eD sm2 Ry Rn r1 r2 => ?_) (fun ys σ H2 hp eD sm2 => ?_)
    · obtain ⟨rfl, hj⟩ := rng_at hx
      obtain ⟨⟨k, rfl⟩, xs, rfl, xl, xb⟩ := hp
      have sB : Same H H2 := sA.trans (sm2.trans hid_le)
      refine ⟨_, rfl, _, rfl, _, _, rfl, rfl, a, ns, 2 + (0 + (i : Int)), rfl, sB.seq hS, few, by omega, fun n2 f2 => ⟨_, rfl, n2, 0 + (j : Int), rfl, by omega, by omega, fun m2 a2 b2 => ⟨m2, rfl, fun y H3 yb s3 => ?_⟩⟩⟩
      refine r1 _ _ H3 s3 ⟨⟨_, rfl⟩, xs ++ [y], by rw [List.map_append]; rfl, by rw [List.length_append, xl]; rfl, fun z hz => ?_⟩
      rcases List.mem_append.mp hz with h | h
      · exact xb z h
      · rw [List.mem_singleton.mp h]; omega
    · obtain ⟨_, xs, rfl, xl, xb⟩ := hp
      have s2 : Same H' H2 := sm2.trans hid_le
      refine ⟨rp, _, _, rfl, rfl, s2 _ _ er, (by have := Paired.length pr; rw [sizeLine_eq]; omega), ?_⟩
      refine ⟨_, rv ++ [.ref D], rows ++ [xs], rfl, ?_, upd_same, ?_, by rw [List.length_append, rl]; rfl, fun r hr' => ?_, fun r hr' => ?_⟩
      · rw [hid_upd]; exact sm.trans (hid_same s2)
      · rw [hid_upd]
        exact Paired.snoc (Paired.mapP pr fun _ _ q => q.same (hid_same s2)) ⟨D, rfl, sA.free hD, by rw [hid_ne nDr]; exact eD⟩
      · rcases List.mem_append.mp hr' with h | h
        · exact rm r h
        · rw [List.mem_singleton.mp h, xl]; simp
      · rcases List.mem_append.mp hr' with h | h
        · exact rb r h
        · rw [List.mem_singleton.mp h]; exact xb
  obtain ⟨k, rv, rows, rfl, sm, er, pr, rl, rm, rb⟩ := h
  refine ⟨_, rfl, ?_⟩
  have x0 := Int.emod_nonneg (c / 20) (show (9 : Int) ≠ 0 by decide)
  have x1 := Int.emod_lt_of_pos (c / 20) (show (0 : Int) < 9 by decide)
  have y0 := Int.emod_nonneg (c / 20) (show (10 : Int) ^ (9 : Int).toNat ≠ 0 by decide)
  have y1 := Int.emod_lt_of_pos (c / 20) (show (0 : Int) < 10 ^ (9 : Int).toNat by decide)
  refine ⟨_, rfl, _, _, rfl, rfl, ⟨by decide, by decide⟩, _, _, rfl, rfl, (by show (0 : Int) < 9; decide), _, _, rfl, rfl, ?_⟩
  refine ⟨_, rfl, _, _, rfl, rfl, ⟨by decide, by decide⟩, _, _, rfl, rfl, ⟨by decide, by decide, by decide⟩, _, _, rfl, rfl, (by show (0 : Int) < 10 ^ (9 : Int).toNat; decide), _, _, rfl, rfl, ?_⟩
  refine ⟨(by show 3 ≤ sizeLine; decide), fun l2 hz_l2 => ?_⟩
  generalize hH_ : upd _ l2 _ = H2
  obtain ⟨s2, e2⟩ := upd_new hH_ hz_l2
  clear hH_
  obtain ⟨v2, ev2, m2⟩ := pickL (xs := [V.int 1, .int (1 + c / 20 % 9), .int (1 + c / 20 % 10 ^ (9 : Int).toNat)]) (n := 3) rfl (by decide) (c / 60)
  obtain ⟨sc, rfl, hs⟩ := vmem (P' := fun i => 0 < i ∧ i ≤ 1000000000) (by
    intro x hx
    simp only [List.mem_cons, List.not_mem_nil, or_false] at hx
    have t9 : (10 : Int) ^ (9 : Int).toNat = 1000000000 := by decide
    rw [t9] at y0 y1
    rcases hx with rfl | rfl | rfl
    · exact ⟨_, rfl, by decide, by decide⟩
    · exact ⟨_, rfl, by omega, by omega⟩
    · rw [t9]; exact ⟨_, rfl, by omega, by omega⟩) m2
  refine ⟨_, rfl, _, _, rfl, rfl, ⟨by decide, by decide⟩, _, _, rfl, rfl, (by show (0 : Int) < 3; decide), l2, _, _, _, rfl, rfl, SqL.of e2, ev2, ?_⟩
  refine ⟨(by show 2 ≤ sizeLine; decide), fun p hz_p => ?_⟩
  generalize hH_ : upd _ p _ = H3
  obtain ⟨s3, e3⟩ := upd_new hH_ hz_p
  clear hH_
  have s23 := s2.trans s3
  have sg : Same (hid rp H') H3 := hid_le.trans s23
  exact q p rows sc (1 + c % 4).toNat (1 + c / 4 % 5).toNat H3 (sm.trans sg) ⟨rp, e3, rv, n1, s23 _ _ er, Paired.mapP pr fun _ _ q => q.same sg⟩ ⟨rl, rm, rb, by omega⟩ hs.1 (by omega)
def spCop : Sp := fun vs H Q _ => ∃ p rows sc, vs = [.ref p] ∧ TabF e0 H p rows sc ∧ rows.length ≤ 100 ∧ ∀ p' H', Same H H' → TabF H H' p' rows sc → Q (.ref p') H'
theorem sc_copied : FnScope ["_law_tableau"] ["_law_tableau"] (defScope s_copied) := ⟨rfl, rfl, rfl, by decide +kernel, rfl, by decide +kernel, by decide +kernel⟩
theorem lk_copied__law_tableau : (defScope s_copied).names.lookup ("_law_tableau" : Str) = some .local := by decide +kernel
theorem ok_copied (F : Fun K "_law_copied" "_law_copied" s_copied f fd) (B : Blt mg) : FnOk P w K mg base CX0 1 f fd ["_law_tableau"] spCop := by
  refine F.ok sc_copied (fun vs H Q E h => ?_) (fun cdv A outer s H vs Q E hr h => ?_)
  · obtain ⟨_, _, _, rfl, _⟩ := h
    rfl
  obtain ⟨p, rows, sc, rfl, ⟨l, hp, rv, _, hl, pr⟩, h100, q⟩ := h
  have nd := sc_copied.nd
  have rl : rv.length = rows.length := Paired.length pr
  refine ⟨_, pss_one (ps_ret (pe_tup (pa_ListComp (pe_comp rfl (frees_of ["_law_row"] [] ["_law_tableau"] (by decide +kernel)) (noFree rfl) (by decide +kernel) rfl (by decide +kernel) (fun y hy => PySem.mem_of_lookup hy) (pi_list (pe_ix ix_tup (pv 0 rfl (Or.inl lk_copied__law_tableau)) (pe_int) (fun _ _ => rfl))) (fun cl C s H fp pins => pg_name (i := 0) (show (["_law_row"] : List Str).Nodup by decide +kernel) rfl (Or.inl (c_loc (by decide +kernel))) (.inr (c_loc (by decide +kernel)))) (fun cl C s H fp pins => pif_nil) (fun cl C s H fp pins => pe_callTy (call_listK (K := K) rfl) (c_gl (by decide +kernel)) B.list bt_list (pa_Name (pv 0 rfl (c_vloc (by decide +kernel))) pa_nil))) (pa_Subscript (pe_ix ix_tup (pv 0 rfl (Or.inl lk_copied__law_tableau)) (pe_int) (fun _ _ => rfl)) pa_nil)))), ?_⟩
  refine ⟨_, rfl, p, _, _, _, rfl, rfl, SqT.of hp, rfl, l, rfl, ⟨_, SqL.of hl⟩, fun D hD => ?_⟩
  refine comp_same (J := Itl K l) (xs := rv) hD (by rw [rl, sizeLine_eq]; omega) (goL (SqL.of hl)) (stL (SqL.of hl)) (yL (SqL.of hl)) (fun i ys σ G => (∃ k : Option V, σ = [k]) ∧ Paired (RowAt H G) ys (rows.take i))
    ⟨⟨none, rfl⟩, .nil⟩ (fun i x ys σ H1 hx hq eD sm Ry Rn r1 r2 => ?_) (fun ys σ H1 hq eD sm => ?_)
  · obtain ⟨⟨k0, rfl⟩, pq⟩ := hq
    have hi : i < rows.length := by rw [← rl]; exact (List.getElem?_eq_some_iff.mp hx).1
    obtain ⟨r, rfl, _, hr'⟩ := pair_get pr i _ _ hx (List.getElem?_eq_getElem hi)
    have sA : Same H H1 := sm.trans hid_le
    refine ⟨_, rfl, r, _, rfl, .inl (SqL.of (sA _ _ hr')), fun x hx' => ?_⟩
    have s2 := same_new hx' (.lst (rows[i].map V.int))
    have nx : x ≠ D := fun z => by rw [z, eD] at hx'; cases hx'
    refine r1 _ _ _ s2 ⟨⟨_, rfl⟩, ?_⟩
    rw [take_next (List.getElem?_eq_getElem hi)]
    exact Paired.snoc (Paired.mapP pq fun _ _ q => q.same (hid_same s2)) ⟨x, rfl, sA.free hx', by rw [hid_ne nx]; exact upd_same⟩
  · obtain ⟨_, pq⟩ := hq
    rw [rl, List.take_length] at pq
    have sA : Same H H1 := sm.trans hid_le
    refine ⟨_, rfl, p, _, _, _, rfl, rfl, SqT.of (sA _ _ hp), rfl, ?_⟩
    refine ⟨(by show 2 ≤ sizeLine; decide), fun t hz_t => ?_⟩
    generalize hH_ : upd _ t _ = H2
    obtain ⟨s2, e2⟩ := upd_new hH_ hz_t
    clear hH_
    exact q t H2 (sA.trans s2) ⟨D, e2, ys, hD, s2 _ _ eD, Paired.mapP pq fun _ _ q => q.same (hid_le.trans s2)⟩
def spVal (K : PySem.W.Frag) : Sp := fun vs H Q _ => ∃ (p : Addr) (rows : List (List Int)) (sc : Int) (i j : Nat), vs = [.ref p, .int i, .int j] ∧ TabF e0 H p rows sc ∧ i < rows.length ∧ j < (rows.getD i []).length ∧ 0 < sc ∧ sc.natAbs < BIG ∧ ∀ r H', Same H H' → IsF K H' r (mkF ((rows.getD i []).getD j 0) sc) → Q r H'
theorem sc_value : FnScope ["tableau", "at", "column"] ["tableau", "at", "column"] (defScope s_value) := ⟨rfl, rfl, rfl, by decide +kernel, rfl, by decide +kernel, by decide +kernel⟩
theorem lk_value_tableau : (defScope s_value).names.lookup ("tableau" : Str) = some .local := by decide +kernel
theorem lk_value_at : (defScope s_value).names.lookup ("at" : Str) = some .local := by decide +kernel
theorem lk_value_column : (defScope s_value).names.lookup ("column" : Str) = some .local := by decide +kernel
theorem lk_value_fraction : (defScope s_value).names.lookup ("fraction" : Str) = some .globalImplicit := by decide +kernel
theorem ok_value {ff fg CB : Addr} {df dg : FuncData} {dV : Value} {ds : List Value} (F : Fun K "value" "value" s_value f fd) (B : Blt mg) (D : DefD K mg "fraction" s_fraction dV ff df ["top", "bottom"] ds) (G : DefAt K mg "greatest_divisor" s_greatest_divisor fg dg ["one", "other"]) (X : BadF K mg CB) : FnOk P w K mg base (CXF P w) 4 f fd ["tableau", "at", "column"] (spVal K) := by
  have OF : FnOk P w K mg base (CXF P w) 3 ff df ["top", "bottom"] (spFrac CB) := ok_fraction D B G X
  refine F.okX sc_value (fun vs H Q E h => ?_) (fun cdv A outer s H vs Q E hr h => ?_)
  · obtain ⟨_, _, _, _, _, rfl, _⟩ := h
    rfl
  obtain ⟨p, rows, sc, i, j, rfl, ⟨l, hp, rv, _, hl, pr⟩, hi, hj, s0, sb, k⟩ := h
  have nd := sc_value.nd
  obtain ⟨r, er, _, hr'⟩ := row_at pr hi
  refine ⟨_, pss_one (ps_ret (pe_callS OF hr lk_value_fraction D.m D.F.kp D.b .nil passes_fn (pa_Subscript (pe_ix ix_list (pe_ix ix_list (pe_ix ix_tup (pv 0 rfl (Or.inl lk_value_tableau)) (pe_int) (fun _ _ => rfl)) (pv 1 rfl (Or.inl lk_value_at)) (fun _ _ => rfl)) (pv 2 rfl (Or.inl lk_value_column)) (fun _ _ => rfl)) (pa_Subscript (pe_ix ix_tup (pv 0 rfl (Or.inl lk_value_tableau)) (pe_int) (fun _ _ => rfl)) pa_nil)))), ?_⟩
  refine ⟨_, rfl, p, _, _, _, rfl, rfl, SqT.of hp, rfl, _, rfl, l, _, _, _, rfl, rfl, SqL.of hl, er, _, rfl, r, _, _, _, rfl, rfl, SqL.of hr', int_at hj, _, rfl, p, _, _, _, rfl, rfl, SqT.of hp, rfl, ?_⟩
  exact ⟨_, _, rfl, sb, fun z => absurd z (by omega), fun _ t ht => k _ _ (same_new ht _) (IsF.new (a := mkF ((rows.getD i []).getD j 0) sc) ht)⟩
end
end Pw


set_option Elab.async false
set_option linter.all false
set_option maxRecDepth 100000
set_option maxHeartbeats 4000000
namespace Pw
open PySem L2
seal PE PT PW PA PS PSs PG PGs PI PIf
structure Tf (n m k : Nat) (frs : List (List Fq)) : Prop where
  hn : frs.length = n
  hm : ∀ r ∈ frs, r.length = m
  hb : ∀ r ∈ frs, ∀ a ∈ r, Gd k a
  nm : 0 < n ∧ n ≤ 4 ∧ 0 < m ∧ m ≤ 5
def byF (frs : List (List Fq)) (i j : Nat) : Fq := (frs.getD i []).getD j (0, 1)
def Pt (frs : List (List Fq)) (G : Hp) (v : V) : Prop := ∃ (t : Addr) (i j : Nat), v = .ref t ∧ G t = some (.tup [.int i, .int j]) ∧ i < frs.length ∧ j < (frs.getD i []).length ∧ (byF frs i j).1 ≠ 0
theorem Pt.same {frs : List (List Fq)} {G G' : Hp} {v : V} (e : Same G G') (h : Pt frs G v) : Pt frs G' v := let ⟨t, i, j, a, b, c⟩ := h; ⟨t, i, j, a, e _ _ b, c⟩
theorem ifE_jn {c : TT} {t u : TE} {Q : VK} {σ : St} {H : Hp} {b : Bool} (J : V → Hp → Prop) (hc : Tells c σ H b) (h1 : b = true → ∀ H', Same H H' → ∀ R : VK, (∀ v H', J v H' → R v H') → t σ H' R) (h0 : b = false → ∀ H', Same H H' → ∀ R : VK, (∀ v H', J v H' → R v H') → u σ H' R) (hJ : ∀ v H', J v H' → Q v H') : tIf c t u σ H Q :=
  ifE_by hc (fun e H' s => h1 e H' s Q hJ) (fun e H' s => h0 e H' s Q hJ)
section
variable {P : Program} {w : World} {K : PySem.W.Frag} {mg : Str → Option Value} {base : Heap} {f : Addr} {fd : FuncData}
def spPlace (K : PySem.W.Frag) : Sp := fun vs H Q _ => ∃ (l : Addr) (x : Int) (frs : List (List Fq)) (n m k : Nat), vs = [.ref l, .int x] ∧ FrF K e0 H l frs ∧ Tf n m k frs ∧ (∀ H', Same H H' → Q .non H') ∧ ∀ v H', Same H H' → Pt frs H' v → Q v H'
theorem sc_place : FnScope ["_law_table_here", "_law_number_here", "_law_some", "_law_at_here", "_law_row", "_law_column", "_law_part"] ["_law_table_here", "_law_number_here"] (defScope s_place) := ⟨rfl, rfl, rfl, by decide +kernel, rfl, by decide +kernel, by decide +kernel⟩
theorem lk_place__law_table_here : (defScope s_place).names.lookup ("_law_table_here" : Str) = some .local := by decide +kernel
theorem lk_place__law_number_here : (defScope s_place).names.lookup ("_law_number_here" : Str) = some .local := by decide +kernel
theorem lk_place__law_some : (defScope s_place).names.lookup ("_law_some" : Str) = some .local := by decide +kernel
theorem lk_place__law_at_here : (defScope s_place).names.lookup ("_law_at_here" : Str) = some .local := by decide +kernel
theorem lk_place__law_row : (defScope s_place).names.lookup ("_law_row" : Str) = some .local := by decide +kernel
theorem lk_place__law_column : (defScope s_place).names.lookup ("_law_column" : Str) = some .local := by decide +kernel
theorem lk_place__law_part : (defScope s_place).names.lookup ("_law_part" : Str) = some .local := by decide +kernel
theorem lk_place_enumerate : (defScope s_place).names.lookup ("enumerate" : Str) = some .globalImplicit := by decide +kernel
theorem lk_place_len : (defScope s_place).names.lookup ("len" : Str) = some .globalImplicit := by decide +kernel
theorem ok_place (F : Fun K "_law_place" "_law_place" s_place f fd) (B : Blt mg) : FnOk P w K mg base CX0 1 f fd ["_law_table_here", "_law_number_here"] (spPlace K) := by
  refine F.ok sc_place (fun vs H Q E h => ?_) (fun cdv A outer s H vs Q E hr h => ?_)
  · obtain ⟨_, _, _, _, _, _, rfl, _⟩ := h
    rfl
  obtain ⟨l, x, frs, n, m, kk, rfl, ⟨rv, _, hl, pr⟩, tf, q0, q1⟩ := h
  have nd := sc_place.nd
  have hu0 := Nat.lt_of_le_of_lt (Nat.le_succ _) (hu_of hr)
  have rl : rv.length = frs.length := Paired.length pr
  obtain ⟨_, n4, _, m5⟩ := tf.nm
  have hn := tf.hn
  refine ⟨_, pss_cons (ps_set (i := 2) nd rfl (Or.inl lk_place__law_some) (pe_lst pa_nil))
    (pss_cons (ps_for PassesOwn.never rfl (pi_enum lk_place_enumerate B.enumerate (pa_Name (pv 0 rfl (Or.inl lk_place__law_table_here)) pa_nil)) (pg_tup rfl (pgs_cons (pg_name (i := 3) nd rfl (Or.inl lk_place__law_at_here)) (pgs_cons (pg_name (i := 4) nd rfl (Or.inl lk_place__law_row)) (pgs_nil)))) (pss_one (ps_for PassesOwn.never rfl (pi_enum lk_place_enumerate B.enumerate (pa_Name (pv 4 rfl (Or.inl lk_place__law_row)) pa_nil)) (pg_tup rfl (pgs_cons (pg_name (i := 5) nd rfl (Or.inl lk_place__law_column)) (pgs_cons (pg_name (i := 6) nd rfl (Or.inl lk_place__law_part)) (pgs_nil)))) (pss_one (ps_if (pt_cmpR op_ne (pe_ix ix_tup (pv 6 rfl (Or.inl lk_place__law_part)) (pe_int) (fun _ _ => rfl)) (pe_int) (nomark _)) (pss_one (ps_expr (pe_bm PySem.F.plainAttrs_list PySem.F.slot_list_append PySem.F.type_list_append mt_append (pv 2 rfl (Or.inl lk_place__law_some)) (pa_Tuple (pe_tup (pa_Name (pv 3 rfl (Or.inl lk_place__law_at_here)) (pa_Name (pv 5 rfl (Or.inl lk_place__law_column)) pa_nil))) pa_nil)))) (pss_nil))))))
    (pss_cons (ps_if (pt_cmpR (op_eqL0 (K := K) rfl hu0) (pv 2 rfl (Or.inl lk_place__law_some)) (pe_lst pa_nil) (nomark _)) (pss_one (ps_ret (pe_non))) (pss_nil))
    (pss_one (ps_ret (pe_ix ix_list (pv 2 rfl (Or.inl lk_place__law_some)) (pe_op op_mod (pv 1 rfl (Or.inl lk_place__law_number_here)) (pe_callB call_len_seq lk_place_len B.len bt_len (pa_Name (pv 2 rfl (Or.inl lk_place__law_some)) pa_nil))) (fun _ _ => rfl)))))), ?_⟩
  refine ⟨(by show 0 ≤ sizeLine; decide), fun sp n1 => ?_⟩
  generalize hH_ : upd _ sp _ = H1
  obtain ⟨s1, e1⟩ := upd_new hH_ n1
  clear hH_
  refine ⟨_, rfl, l, rfl, ⟨_, SqL.of (s1 _ _ hl)⟩, ?_⟩
  refine for_enum (xs := rv) (fun i σ H' => ∃ (a b c d : Option V) (ws : List V), σ = [some (.ref l), some (.int x), some (.ref sp), a, b, c, d] ∧ Same H (hid sp H') ∧ H' sp = some (.lst ws) ∧ ws.length ≤ 5 * i ∧ ∀ v ∈ ws, Pt frs (hid sp H') v)
    ⟨none, none, none, none, [], rfl, (fun b o e => by rw [hid_ne (ne_of_none e n1)]; exact s1 b o e), e1, Nat.zero_le _, by simp⟩ (fun i σ H' _ h => ?_) (fun i x' σ H' hx h p hp => ?_) (fun σ H' h => ?_)
  · obtain ⟨_, _, _, _, _, _, sm, _⟩ := h
    exact SqL.of ((sm.trans hid_le) _ _ hl)
  · obtain ⟨a, b, c, d, ws, rfl, sm, es, wl, wp⟩ := h
    have hi : i < frs.length := by rw [← rl]; exact (List.getElem?_eq_some_iff.mp hx).1
    have st := same_new hp (.tup [.int i, x'])
    have sA : Same H (upd H' p (.tup [.int i, x'])) := (sm.trans hid_le).trans st
    have es1 := st _ _ es
    obtain ⟨r, fv, rfl, _, hr', pf⟩ := pair_get pr i _ _ hx (List.getElem?_eq_getElem hi)
    have er := sA _ _ hr'
    have sm1 : Same H (hid sp (upd H' p (.tup [.int i, .ref r]))) := sm.trans (hid_same st)
    have wp1 : ∀ v ∈ ws, Pt frs (hid sp (upd H' p (.tup [.int i, .ref r]))) v := fun v hv => (wp v hv).same (hid_same st)
    have fl : fv.length = frs[i].length := Paired.length pf
    have fm : frs[i].length = m := tf.hm _ (List.getElem_mem hi)
    have gi : frs.getD i [] = frs[i] := by simp [hi]
    refine ⟨p, _, rfl, SqT.of upd_same, rfl, _, _, rfl, _, _, rfl, rfl, ?_⟩
    refine ⟨_, rfl, r, rfl, ⟨_, SqL.of er⟩, ?_⟩
    refine for_enum (xs := fv) (fun j σ H2 => ∃ (c d : Option V) (ws : List V), σ = [some (.ref l), some (.int x), some (.ref sp), some (.int i), some (.ref r), c, d] ∧ Same H (hid sp H2) ∧ H2 sp = some (.lst ws) ∧ ws.length ≤ 5 * i + j ∧ ∀ v ∈ ws, Pt frs (hid sp H2) v)
      ⟨c, d, ws, rfl, sm1, es1, wl, wp1⟩ (fun j σ H2 _ h => ?_) (fun j y σ H2 hy h p2 hp2 => ?_) (fun σ H2 h => ?_)
    · obtain ⟨_, _, _, _, sm, _⟩ := h
      exact SqL.of ((sm.trans hid_le) _ _ hr')
    · obtain ⟨c, d, ws, rfl, sm, es, wl, wp⟩ := h
      have hj : j < frs[i].length := by rw [← fl]; exact (List.getElem?_eq_some_iff.mp hy).1
      have st := same_new hp2 (.tup [.int j, y])
      have sA : Same H (upd H2 p2 (.tup [.int j, y])) := (sm.trans hid_le).trans st
      have es1 := st _ _ es
      have sm1 : Same H (hid sp (upd H2 p2 (.tup [.int j, y]))) := sm.trans (hid_same st)
      have wp1 : ∀ v ∈ ws, Pt frs (hid sp (upd H2 p2 (.tup [.int j, y]))) v := fun v hv => (wp v hv).same (hid_same st)
      obtain ⟨fp, rfl, hf⟩ := (pair_get pf j _ _ hy (List.getElem?_eq_getElem hj)).same sA
      refine ⟨p2, _, rfl, SqT.of upd_same, rfl, _, _, rfl, _, _, rfl, rfl, ?_⟩
      refine ⟨_, rfl, fp, _, _, _, rfl, rfl, hf, rfl, rfl, _, rfl, ?_⟩
      by_cases z : frs[i][j].1 = 0
      · exact iteN (neN z) ⟨_, _, ws, rfl, sm1, es1, by omega, wp1⟩
      refine iteY (neY z) ?_
      refine ⟨_, rfl, .inl ⟨rfl, _, SqL.of es1⟩, _, rfl, _, rfl, ?_⟩
      refine ⟨(by show 2 ≤ sizeLine; decide), fun t hz_t => ?_⟩
      generalize hH_ : upd _ t _ = H4
      obtain ⟨s4, e4⟩ := upd_new hH_ hz_t
      clear hH_
      have es4 := s4 _ _ es1
      refine ⟨sp, _, _, rfl, rfl, es4, (by rw [sizeLine_eq]; omega), ?_⟩
      refine ⟨_, _, ws ++ [.ref t], rfl, by rw [hid_upd]; exact sm1.trans (hid_same s4), upd_same, by rw [List.length_append, List.length_singleton]; omega, fun v hv => ?_⟩
      rw [hid_upd]
      rcases List.mem_append.mp hv with h | h
      · exact (wp1 v h).same (hid_same s4)
      · rw [List.mem_singleton.mp h]
        refine ⟨t, i, j, rfl, tup_hid es4 e4, hi, by rw [gi]; exact hj, ?_⟩
        unfold byF
        rw [gi, show frs[i].getD j (0, 1) = frs[i][j] by simp [hj]]
        exact z
    · obtain ⟨c, d, ws, rfl, sm, es, wl, wp⟩ := h
      exact ⟨_, _, _, _, ws, rfl, sm, es, by omega, wp⟩
  obtain ⟨a, b, c, d, ws, rfl, sm, es, wl, wp⟩ := h
  have sA : Same H H' := sm.trans hid_le
  dsimp only [tSeq]
  refine ifS_by (b := ws.isEmpty) (fun R hR => ?_) (fun hb H2 s2 => ?_) (fun hb H2 s2 => ?_)
  · refine ⟨_, rfl, ?_⟩
    refine ⟨(by show 0 ≤ sizeLine; decide), fun l2 hz_l2 => ?_⟩
    generalize hH_ : upd _ l2 _ = H2
    obtain ⟨s2, e2⟩ := upd_new hH_ hz_l2
    clear hH_
    exact ⟨sp, l2, ws, rfl, rfl, SqL.of (s2 _ _ es), SqL.of e2, _, rfl, hR _ s2⟩
  · exact q0 _ (sA.trans s2)
  · have w0 : 0 < ws.length := by
      cases ws with
      | nil => cases hb
      | cons x xs => exact Nat.succ_pos _
    obtain ⟨v, ev, hv⟩ := pickL (xs := ws) (n := ws.length) rfl w0 x
    exact ⟨_, rfl, _, rfl, _, rfl, sp, ws, rfl, .inl (SqL.of (s2 _ _ es)), _, _, rfl, rfl, (by show (0 : Int) < (ws.length : Int); omega), sp, _, _, _, rfl, rfl, SqL.of (s2 _ _ es), ev, q1 v _ (sA.trans s2) ((wp v hv).same (hid_le.trans s2))⟩
end
end Pw


set_option Elab.async false
set_option linter.all false
set_option maxRecDepth 100000
set_option maxHeartbeats 4000000
namespace Pw
open PySem L2
seal PE PT PW PA PS PSs PG PGs PI PIf
def backF (b : Fq) : Fq := if 0 < b.1 then (b.2, b.1) else (0 - b.2, 0 - b.1)
def headV (frs : List (List Fq)) (i j : Nat) : List Fq := (frs.getD i []).map fun f => rTi f (backF (byF frs i j))
def offF (g : Fq) : Fq := (0 - g.1, g.2)
def rowV (frs : List (List Fq)) (i j h : Nat) : List Fq := List.zipWith (fun f o => rPl f (rTi (offF (byF frs h j)) o)) (frs.getD h []) (headV frs i j)
def rawV (frs : List (List Fq)) (i j : Nat) : List (List Fq) := ((List.range frs.length).map (rowV frs i j)).set i (headV frs i j)
def mk1 (a : Fq) : Fq := mkF a.1 a.2
def dueV (frs : List (List Fq)) (i j : Nat) : List (List Fq) := (rawV frs i j).map (·.map mk1)
theorem paired_set {α β : Type} {F : α → β → Prop} {a : α} {b : β} (h : F a b) : ∀ {xs : List α} {ys : List β} (i : Nat), Paired F xs ys → Paired F (xs.set i a) (ys.set i b)
  | _, _, _, .nil => .nil
  | _, _, 0, .cons _ t => .cons h t
  | _, _, i + 1, .cons r t => .cons r (paired_set h i t)
theorem fr_at {K : PySem.W.Frag} {B H : Hp} {rv : List V} {frs : List (List Fq)} (h : Paired (FrAt K B H) rv frs) {i : Nat} (hi : i < frs.length) : ∃ r fv, atI rv (i : Int) = some (.ref r) ∧ B r = none ∧ H r = some (.lst fv) ∧ Paired (IsF K H) fv (frs.getD i []) := by
  have hl : rv.length = frs.length := Paired.length h
  obtain ⟨r, fv, e, b, c, d⟩ := pair_get h i _ _ (List.getElem?_eq_getElem (by omega)) (List.getElem?_eq_getElem hi)
  refine ⟨r, fv, ?_, b, c, ?_⟩
  · rw [← e]; exact atI_nat (List.getElem?_eq_getElem (by omega))
  · rw [show frs.getD i [] = frs[i] by simp [hi]]; exact d
theorem f_at {K : PySem.W.Frag} {H : Hp} {fv : List V} {as : List Fq} (h : Paired (IsF K H) fv as) {j : Nat} (hj : j < as.length) : ∃ p, atI fv (j : Int) = some (.ref p) ∧ SqT K H p [.int (as.getD j (0, 1)).1, .int (as.getD j (0, 1)).2] := by
  have hl : fv.length = as.length := Paired.length h
  obtain ⟨p, e, c⟩ := pair_get h j _ _ (List.getElem?_eq_getElem (by omega)) (List.getElem?_eq_getElem hj)
  refine ⟨p, ?_, ?_⟩
  · rw [← e]; exact atI_nat (List.getElem?_eq_getElem (by omega))
  · rw [show as.getD j (0, 1) = as[j] by simp [hj]]; exact c
theorem Tf.row {n m k : Nat} {frs : List (List Fq)} (h : Tf n m k frs) {i : Nat} (hi : i < n) : (frs.getD i []).length = m ∧ ∀ a ∈ frs.getD i [], Gd k a := by
  have hm : frs.getD i [] ∈ frs := getD_mem' (by rw [h.hn]; exact hi)
  exact ⟨h.hm _ hm, h.hb _ hm⟩
theorem Tf.by {n m k : Nat} {frs : List (List Fq)} (h : Tf n m k frs) {i j : Nat} (hi : i < n) (hj : j < m) : Gd k (byF frs i j) := (h.row hi).2 _ (getD_mem' (by rw [(h.row hi).1]; exact hj))
theorem back_ok {k : Nat} {b : Fq} (h : Gd k b) (z : b.1 ≠ 0) : Fb k (backF b) ∧ 0 < (backF b).2 := by
  have h1 := h.1.1
  have h2 := h.2.1
  have h3 := h.2.2
  unfold backF
  split
  · rename_i p
    exact ⟨⟨h3, h2⟩, p⟩
  · rename_i p
    refine ⟨⟨?_, ?_⟩, ?_⟩
    · show (0 - b.2).natAbs < _
      rw [Int.zero_sub, Int.natAbs_neg]; exact h3
    · show (0 - b.1).natAbs < _
      rw [Int.zero_sub, Int.natAbs_neg]; exact h2
    · show 0 < 0 - b.1
      omega
theorem off_ok {k : Nat} {b : Fq} (h : Gd k b) : Fb k (offF b) ∧ 0 < (offF b).2 := by
  refine ⟨⟨?_, h.2.2⟩, by have := h.1.1; show 0 < b.2; omega⟩
  show (0 - b.1).natAbs < _
  rw [Int.zero_sub, Int.natAbs_neg]; exact h.2.1
theorem rTi_ok {j k : Nat} {a b : Fq} (ha : Fb j a) (hb : Fb k b) (pa : 0 < a.2) (pb : 0 < b.2) : Fb (j + k) (rTi a b) ∧ 0 < (rTi a b).2 := ⟨⟨mul_lt ha.1 hb.1, mul_lt ha.2 hb.2⟩, Int.mul_pos pa pb⟩
theorem rPl_ok {j k : Nat} {a b : Fq} (ha : Fb j a) (hb : Fb k b) (pa : 0 < a.2) (pb : 0 < b.2) : Fb (j + k + 1) (rPl a b) ∧ 0 < (rPl a b).2 := ⟨⟨ha.top hb, pow_up (ha.bot hb) (Nat.le_succ _)⟩, Int.mul_pos pa pb⟩
theorem head_ok {n m k : Nat} {frs : List (List Fq)} (h : Tf n m k frs) {i j : Nat} (hi : i < n) (hj : j < m) (z : (byF frs i j).1 ≠ 0) : (headV frs i j).length = m ∧ ∀ a ∈ headV frs i j, Fb (2 * k) a ∧ 0 < a.2 := by
  refine ⟨by unfold headV; rw [List.length_map]; exact (h.row hi).1, fun a ha => ?_⟩
  obtain ⟨f, hf, rfl⟩ := List.mem_map.mp ha
  have g := (h.row hi).2 f hf
  obtain ⟨b1, b2⟩ := back_ok (h.by hi hj) z
  have := rTi_ok g.2 b1 (by have := g.1.1; omega) b2
  exact ⟨this.1.mono (by omega), this.2⟩
theorem row_ok {n m k : Nat} {frs : List (List Fq)} (h : Tf n m k frs) {i j x : Nat} (hi : i < n) (hj : j < m) (hx : x < n) (z : (byF frs i j).1 ≠ 0) : (rowV frs i j x).length = m ∧ ∀ a ∈ rowV frs i j x, Fb (4 * k + 1) a ∧ 0 < a.2 := by
  obtain ⟨hl, hh⟩ := head_ok h hi hj z
  refine ⟨by unfold rowV; rw [List.length_zipWith, hl, (h.row hx).1, Nat.min_self], fun a ha => ?_⟩
  obtain ⟨c, hc, rfl⟩ := List.mem_iff_getElem.mp ha
  unfold rowV at hc ⊢
  rw [List.getElem_zipWith]
  rw [List.length_zipWith] at hc
  have c1 : c < (frs.getD x []).length := by omega
  have c2 : c < (headV frs i j).length := by omega
  have g := (h.row hx).2 _ (List.getElem_mem c1)
  obtain ⟨f1, f2⟩ := hh _ (List.getElem_mem c2)
  obtain ⟨o1, o2⟩ := off_ok (h.by hx hj)
  obtain ⟨t1, t2⟩ := rTi_ok o1 f1 o2 f2
  have := rPl_ok g.2 t1 (by have := g.1.1; omega) t2
  exact ⟨this.1.mono (by omega), this.2⟩
theorem raw_len (frs : List (List Fq)) (i j : Nat) : (rawV frs i j).length = frs.length := by
  unfold rawV
  rw [List.length_set, List.length_map, List.length_range]
theorem raw_at {frs : List (List Fq)} {i j x : Nat} (hx : x < frs.length) : (rawV frs i j)[x]? = some (if x = i then headV frs i j else rowV frs i j x) := by
  unfold rawV
  by_cases e : x = i
  · subst e
    rw [if_pos rfl, List.getElem?_set_self (by rw [List.length_map, List.length_range]; exact hx)]
  · rw [if_neg e, List.getElem?_set_ne (Ne.symm e), List.getElem?_map, List.getElem?_range hx]
    rfl
theorem raw_ok {n m k : Nat} {frs : List (List Fq)} (h : Tf n m k frs) {i j : Nat} (hi : i < n) (hj : j < m) (z : (byF frs i j).1 ≠ 0) : ∀ r ∈ rawV frs i j, r.length = m ∧ ∀ a ∈ r, Fb (4 * k + 1) a ∧ 0 < a.2 := by
  intro r hr
  obtain ⟨x, hx, rfl⟩ := List.mem_iff_getElem.mp hr
  have hx' : x < frs.length := by rw [raw_len] at hx; exact hx
  have e := raw_at (i := i) (j := j) hx'
  rw [List.getElem?_eq_getElem hx] at e
  rw [Option.some.inj e]
  have hn := h.hn
  by_cases q : x = i
  · rw [if_pos q]
    obtain ⟨a1, a2⟩ := head_ok h hi hj z
    exact ⟨a1, fun a ha => ⟨(a2 a ha).1.mono (by omega), (a2 a ha).2⟩⟩
  · rw [if_neg q]
    exact row_ok h hi hj (by omega) z
section
variable {P : Program} {w : World} {K : PySem.W.Frag} {mg : Str → Option Value} {base : Heap} {f : Addr} {fd : FuncData}
def spDue (K : PySem.W.Frag) : Sp := fun vs H Q _ => ∃ (l : Addr) (frs : List (List Fq)) (n m k i j : Nat), vs = [.ref l, .int i, .int j] ∧ FrF K e0 H l frs ∧ Tf n m k frs ∧ k ≤ 300 ∧ i < n ∧ j < m ∧ (byF frs i j).1 ≠ 0 ∧ ∀ r H', Same H H' → FrF K H H' r (dueV frs i j) → Q (.ref r) H'
theorem sc_due : FnScope ["_law_table_here", "_law_at_here", "_law_column", "_law_by", "_law_back", "_law_head", "_law_found", "_law_here", "_law_row", "_law_off"] ["_law_table_here", "_law_at_here", "_law_column"] (defScope s_due) := ⟨rfl, rfl, rfl, by decide +kernel, rfl, by decide +kernel, by decide +kernel⟩
theorem lk_due__law_table_here : (defScope s_due).names.lookup ("_law_table_here" : Str) = some .local := by decide +kernel
theorem lk_due__law_at_here : (defScope s_due).names.lookup ("_law_at_here" : Str) = some .local := by decide +kernel
theorem lk_due__law_column : (defScope s_due).names.lookup ("_law_column" : Str) = some .local := by decide +kernel
theorem lk_due__law_by : (defScope s_due).names.lookup ("_law_by" : Str) = some .local := by decide +kernel
theorem lk_due__law_back : (defScope s_due).names.lookup ("_law_back" : Str) = some .cell := by decide +kernel
theorem lk_due__law_head : (defScope s_due).names.lookup ("_law_head" : Str) = some .local := by decide +kernel
theorem lk_due__law_found : (defScope s_due).names.lookup ("_law_found" : Str) = some .local := by decide +kernel
theorem lk_due__law_here : (defScope s_due).names.lookup ("_law_here" : Str) = some .local := by decide +kernel
theorem lk_due__law_row : (defScope s_due).names.lookup ("_law_row" : Str) = some .local := by decide +kernel
theorem lk_due__law_off : (defScope s_due).names.lookup ("_law_off" : Str) = some .cell := by decide +kernel
theorem lk_due_enumerate : (defScope s_due).names.lookup ("enumerate" : Str) = some .globalImplicit := by decide +kernel
theorem lk_due_zip : (defScope s_due).names.lookup ("zip" : Str) = some .globalImplicit := by decide +kernel
theorem ok_due {fDTi fDPl fDLo : Addr} {dDTi dDPl dDLo : FuncData} (F : Fun K "_law_due" "_law_due" s_due f fd) (B : Blt mg) (DTi : DefAt K mg "_law_times" s_ltimes fDTi dDTi ["_law_one", "_law_other"]) (DPl : DefAt K mg "_law_plus" s_lplus fDPl dDPl ["_law_one", "_law_other"]) (DLo : DefAt K mg "_law_lowest" s_lowest fDLo dDLo ["_law_top", "_law_bottom"]) : FnOk P w K mg base CX0 2 f fd ["_law_table_here", "_law_at_here", "_law_column"] (spDue K) := by
  have OT : FnOk P w K mg base CX0 1 fDTi dDTi ["_law_one", "_law_other"] (spRaw K rTi) := ok_ltimes DTi.F
  have OP : FnOk P w K mg base CX0 1 fDPl dDPl ["_law_one", "_law_other"] (spRaw K rPl) := ok_lplus DPl.F
  have OL : FnOk P w K mg base CX0 1 fDLo dDLo ["_law_top", "_law_bottom"] (spLes K) := ok_lowest DLo.F B
  refine F.ok sc_due (fun vs H Q E h => ?_) (fun cdv A outer s H vs Q E hr h => ?_)
  · obtain ⟨_, _, _, _, _, _, _, rfl, _⟩ := h
    rfl
  obtain ⟨l, frs, n, m, k, i, j, rfl, ⟨rv, _, hl, pr⟩, tf, k300, hi, hj, z, q⟩ := h
  have nd := sc_due.nd
  have rl : rv.length = frs.length := Paired.length pr
  have hn := tf.hn
  obtain ⟨_, n4, _, m5⟩ := tf.nm
  obtain ⟨r0, fv0, er0, _, hr0, pf0⟩ := fr_at pr (show i < frs.length by omega)
  obtain ⟨bp, eb, hb⟩ := f_at pf0 (show j < (frs.getD i []).length by rw [(tf.row hi).1]; exact hj)
  obtain ⟨bk1, bk2⟩ := back_ok (tf.by hi hj) z
  obtain ⟨hd1, hd2⟩ := head_ok tf hi hj z
  have fl0 : fv0.length = (frs.getD i []).length := Paired.length pf0
  have rm0 := (tf.row hi).1
  refine ⟨_, pss_cons (ps_set (i := 3) nd rfl (Or.inl lk_due__law_by) (pe_ix ix_list (pe_ix ix_list (pv 0 rfl (Or.inl lk_due__law_table_here)) (pv 1 rfl (Or.inl lk_due__law_at_here)) (fun _ _ => rfl)) (pv 2 rfl (Or.inl lk_due__law_column)) (fun _ _ => rfl)))
    (pss_cons (ps_set (i := 4) nd rfl (Or.inr lk_due__law_back) (pe_ifExp (pt_cmpR op_gt (pe_ix ix_tup (pv 3 rfl (Or.inl lk_due__law_by)) (pe_int) (fun _ _ => rfl)) (pe_int) (nomark _)) (pe_tup (pa_Subscript (pe_ix ix_tup (pv 3 rfl (Or.inl lk_due__law_by)) (pe_int) (fun _ _ => rfl)) (pa_Subscript (pe_ix ix_tup (pv 3 rfl (Or.inl lk_due__law_by)) (pe_int) (fun _ _ => rfl)) pa_nil))) (pe_tup (pa_BinOp (pe_op op_sub (pe_int) (pe_ix ix_tup (pv 3 rfl (Or.inl lk_due__law_by)) (pe_int) (fun _ _ => rfl))) (pa_BinOp (pe_op op_sub (pe_int) (pe_ix ix_tup (pv 3 rfl (Or.inl lk_due__law_by)) (pe_int) (fun _ _ => rfl))) pa_nil)))))
    (pss_cons (ps_setc (i0 := 5) nd rfl lk_due__law_head rfl (frees_of ["_law_part"] [("_law_back", 4)] ["_law_table_here", "_law_at_here", "_law_column", "_law_by", "_law_back", "_law_head", "_law_found", "_law_here", "_law_row", "_law_off"] (by decide +kernel)) (visC s_due (by decide +kernel)) (by decide +kernel) rfl (by decide +kernel) (fun y hy => PySem.mem_of_lookup hy) (pi_list (pe_ix ix_list (pv 0 rfl (Or.inl lk_due__law_table_here)) (pv 1 rfl (Or.inl lk_due__law_at_here)) (fun _ _ => rfl))) (fun cl C s H fp pins => pg_name (i := 0) (show (["_law_part", "_law_back"] : List Str).Nodup by decide +kernel) rfl (Or.inl (c_loc (by decide +kernel))) (.inr (c_loc (by decide +kernel)))) (fun cl C s H fp pins => pif_nil) (fun cl C s H fp pins => pe_call OT hr (c_gl (by decide +kernel)) DTi.m DTi.F.kp DTi.b .nil pass0 (pa_Name (pv 0 rfl (c_vloc (by decide +kernel))) (pa_Name (pv 1 rfl (c_free (by decide +kernel))) pa_nil))))
    (pss_cons (ps_set (i := 6) nd rfl (Or.inl lk_due__law_found) (pe_lst pa_nil))
    (pss_cons (ps_for PassesOwn.never rfl (pi_enum lk_due_enumerate B.enumerate (pa_Name (pv 0 rfl (Or.inl lk_due__law_table_here)) pa_nil)) (pg_tup rfl (pgs_cons (pg_name (i := 7) nd rfl (Or.inl lk_due__law_here)) (pgs_cons (pg_name (i := 8) nd rfl (Or.inl lk_due__law_row)) (pgs_nil)))) (pss_cons (ps_set (i := 9) nd rfl (Or.inr lk_due__law_off) (pe_tup (pa_BinOp (pe_op op_sub (pe_int) (pe_ix ix_tup (pe_ix ix_list (pv 8 rfl (Or.inl lk_due__law_row)) (pv 2 rfl (Or.inl lk_due__law_column)) (fun _ _ => rfl)) (pe_int) (fun _ _ => rfl))) (pa_Subscript (pe_ix ix_tup (pe_ix ix_list (pv 8 rfl (Or.inl lk_due__law_row)) (pv 2 rfl (Or.inl lk_due__law_column)) (fun _ _ => rfl)) (pe_int) (fun _ _ => rfl)) pa_nil))))
    (pss_one (ps_expr (pe_bm PySem.F.plainAttrs_list PySem.F.slot_list_append PySem.F.type_list_append mt_append (pv 6 rfl (Or.inl lk_due__law_found)) (pa_ListComp (pe_comp rfl (frees_of ["_law_part", "_law_other"] [("_law_off", 9)] ["_law_table_here", "_law_at_here", "_law_column", "_law_by", "_law_back", "_law_head", "_law_found", "_law_here", "_law_row", "_law_off"] (by decide +kernel)) (visC s_due (by decide +kernel)) (by decide +kernel) rfl (by decide +kernel) (fun y hy => PySem.mem_of_lookup hy) (pi_zip false false lk_due_zip B.zip (pa_Name (pv 8 rfl (Or.inl lk_due__law_row)) (pa_Name (pv 5 rfl (Or.inl lk_due__law_head)) pa_nil))) (pgc2 (i := 0) (j := 1) rfl (show (["_law_part", "_law_other", "_law_off"] : List Str).Nodup by decide +kernel) rfl rfl (by decide +kernel) (by decide +kernel)) (fun cl C s H fp pins => pif_nil) (fun cl C s H fp pins => pe_call OP hr (c_gl (by decide +kernel)) DPl.m DPl.F.kp DPl.b .nil pass0 (pa_Name (pv 0 rfl (c_vloc (by decide +kernel))) (pa_Call (pe_call OT hr (c_gl (by decide +kernel)) DTi.m DTi.F.kp DTi.b .nil pass0 (pa_Name (pv 2 rfl (c_free (by decide +kernel))) (pa_Name (pv 1 rfl (c_vloc (by decide +kernel))) pa_nil))) pa_nil)))) pa_nil))))))
    (pss_cons (ps_asg (pv 5 rfl (Or.inl lk_due__law_head)) (pg_sub (pv 6 rfl (Or.inl lk_due__law_found)) (pv 1 rfl (Or.inl lk_due__law_at_here)) set_list))
    (pss_one (ps_ret (pe_comp rfl (frees_of ["_law_row"] [] ["_law_table_here", "_law_at_here", "_law_column", "_law_by", "_law_back", "_law_head", "_law_found", "_law_here", "_law_row", "_law_off"] (by decide +kernel)) (noFree rfl) (by decide +kernel) rfl (by decide +kernel) (fun y hy => PySem.mem_of_lookup hy) (pi_list (pv 6 rfl (Or.inl lk_due__law_found))) (fun cl C s H fp pins => pg_name (i := 0) (show (["_law_row"] : List Str).Nodup by decide +kernel) rfl (Or.inl (c_loc (by decide +kernel))) (.inr (c_loc (by decide +kernel)))) (fun cl C s H fp pins => pif_nil) (fun cl C s H fp pins => pe_comp rfl (frees_of ["_law_part"] [] ["_law_row"] (by decide +kernel)) (noFree rfl) (by decide +kernel) rfl (by decide +kernel) (fun y hy => PySem.mem_of_lookup hy) (pi_listK (K := K) rfl (pv 0 rfl (c_vloc (by decide +kernel)))) (fun cl C s H fp pins => pg_name (i := 0) (show (["_law_part"] : List Str).Nodup by decide +kernel) rfl (Or.inl (c_loc (by decide +kernel))) (.inr (c_loc (by decide +kernel)))) (fun cl C s H fp pins => pif_nil) (fun cl C s H fp pins => pe_call OL hr (c_gl (by decide +kernel)) DLo.m DLo.F.kp DLo.b .nil pass0 (pa_Subscript (pe_ix (ix_tupK (K := K) rfl) (pv 0 rfl (c_vloc (by decide +kernel))) (pe_int) (fun _ _ => rfl)) (pa_Subscript (pe_ix (ix_tupK (K := K) rfl) (pv 0 rfl (c_vloc (by decide +kernel))) (pe_int) (fun _ _ => rfl)) pa_nil)))))))))))), ?_⟩
  refine ⟨_, rfl, _, rfl, l, _, _, _, rfl, rfl, SqL.of hl, er0, _, rfl, r0, _, _, _, rfl, rfl, SqL.of hr0, eb, ?_⟩
  dsimp only [tSeq, tAsg, gName]
  refine ifE_jn (b := decide (0 < (byF frs i j).1)) (fun v H1 => Same H H1 ∧ IsF K H1 v (backF (byF frs i j))) (fun R hR => ⟨_, rfl, bp, _, _, _, rfl, rfl, hb, rfl, _, _, rfl, rfl, _, rfl, hR _ Same.refl'⟩) (fun c H1 s1 R hR => ?_) (fun c H1 s1 R hR => ?_) ?_
  · refine ⟨_, rfl, bp, _, _, _, rfl, rfl, s1.seqT hb, rfl, _, rfl, bp, _, _, _, rfl, rfl, s1.seqT hb, rfl, ?_⟩
    refine ⟨(by show 2 ≤ sizeLine; decide), fun t hz_t => ?_⟩
    generalize hH_ : upd _ t _ = H2
    obtain ⟨s2, e2⟩ := upd_new hH_ hz_t
    clear hH_
    refine hR _ _ ⟨s1.trans s2, t, rfl, SqT.of ?_⟩
    unfold backF
    rw [if_pos (of_decide_eq_true c)]
    exact e2
  · refine ⟨_, rfl, bp, _, _, _, rfl, rfl, s1.seqT hb, rfl, _, _, rfl, rfl, _, rfl, bp, _, _, _, rfl, rfl, s1.seqT hb, rfl, _, _, rfl, rfl, ?_⟩
    refine ⟨(by show 2 ≤ sizeLine; decide), fun t hz_t => ?_⟩
    generalize hH_ : upd _ t _ = H2
    obtain ⟨s2, e2⟩ := upd_new hH_ hz_t
    clear hH_
    refine hR _ _ ⟨s1.trans s2, t, rfl, SqT.of ?_⟩
    unfold backF
    rw [if_neg (of_decide_eq_false c)]
    exact e2
  rintro bk H1 ⟨s1, fbk⟩
  refine ⟨_, rfl, _, rfl, l, _, _, _, rfl, rfl, SqL.of (s1 _ _ hl), er0, r0, rfl, ⟨_, SqL.of (s1 _ _ hr0)⟩, fun hp hHp => ?_⟩
  refine comp_same (J := Itl K r0) (xs := fv0) hHp (by rw [fl0, rm0, sizeLine_eq]; omega) (goL (SqL.of (s1 _ _ hr0))) (stL (SqL.of (s1 _ _ hr0))) (yL (SqL.of (s1 _ _ hr0))) (fun c ys σ G => (∃ k : Option V, σ = [k, some bk]) ∧ Paired (IsF K G) ys ((headV frs i j).take c))
    ⟨⟨none, rfl⟩, .nil⟩ (fun c x ys σ H2 hx hq eD sm Ry Rn r1 r2 => ?_) (fun hv σ H2 hq eh sm => ?_)
  · obtain ⟨⟨k0, rfl⟩, pq⟩ := hq
    have hc : c < (frs.getD i []).length := by rw [← fl0]; exact (List.getElem?_eq_some_iff.mp hx).1
    have sA : Same H1 H2 := sm.trans hid_le
    have hf := (pair_get pf0 c _ _ hx (List.getElem?_eq_getElem hc)).same (s1.trans sA)
    have g := (tf.row hi).2 _ (List.getElem_mem hc)
    refine ⟨_, rfl, _, rfl, x, bk, _, _, k, k, rfl, hf, fbk.same sA, g.2, bk1, by omega, fun r H3 s3 f3 => ?_⟩
    refine r1 _ _ H3 s3 ⟨⟨_, rfl⟩, ?_⟩
    rw [take_next (x := rTi (frs.getD i [])[c] (backF (byF frs i j))) (by unfold headV; rw [List.getElem?_map, List.getElem?_eq_getElem hc]; rfl)]
    exact Paired.snoc (fs_same (hid_same s3) pq) (f3.hid (s3 _ _ eD))
  obtain ⟨_, pq⟩ := hq
  rw [fl0, rm0, ← hd1, List.take_length] at pq
  have sA : Same H H2 := s1.trans (sm.trans hid_le)
  have pq2 : Paired (IsF K H2) hv (headV frs i j) := fs_same hid_le pq
  have nH : H hp = none := s1.free hHp
  have hvl : hv.length = m := by rw [Paired.length pq2]; exact hd1
  have bkO : ∃ bkv, bkv = bk := ⟨_, rfl⟩
  refine ⟨(by show 0 ≤ sizeLine; decide), fun fp n3 => ?_⟩
  generalize hH_ : upd _ fp _ = H3
  obtain ⟨s3, e3⟩ := upd_new hH_ n3
  clear hH_
  refine ⟨_, rfl, l, rfl, ⟨_, SqL.of ((sA.trans s3) _ _ hl)⟩, ?_⟩
  refine for_enum (xs := rv) (fun x σ H' => ∃ (a b c : Option V) (ws : List V), σ = [some (.ref l), some (.int i), some (.int j), some (.ref bp), some bk, some (.ref hp), some (.ref fp), a, b, c] ∧ Same H2 (hid fp H') ∧ H' fp = some (.lst ws) ∧ Paired (FrAt K H (hid fp H')) ws ((List.range x).map (rowV frs i j)))
    ⟨none, none, none, [], rfl, (fun b o e => by rw [hid_ne (ne_of_none e n3)]; exact s3 b o e), e3, .nil⟩ (fun x σ H' _ h => ?_) (fun x y σ H' hy h p hp' => ?_) (fun σ H' h => ?_)
  · obtain ⟨_, _, _, _, _, sm, _⟩ := h
    exact SqL.of ((sA.trans (sm.trans hid_le)) _ _ hl)
  · obtain ⟨a, b, c, ws, rfl, sm', es, pw⟩ := h
    have hx : x < frs.length := by rw [← rl]; exact (List.getElem?_eq_some_iff.mp hy).1
    have st := same_new hp' (.tup [.int x, y])
    have s2' : Same H2 (upd H' p (.tup [.int x, y])) := (sm'.trans hid_le).trans st
    have sB := sA.trans s2'
    obtain ⟨r, fv, rfl, _, hr', pf⟩ := pair_get pr x _ _ hy (List.getElem?_eq_getElem hx)
    have gi : frs.getD x [] = frs[x] := by simp [hx]
    rw [← gi] at pf
    have rmx := (tf.row (show x < n by omega)).1
    have fl : fv.length = m := by rw [Paired.length pf]; exact rmx
    obtain ⟨op, eo, ho⟩ := f_at pf (show j < (frs.getD x []).length by rw [rmx]; exact hj)
    obtain ⟨of1, of2⟩ := off_ok (tf.by (show x < n by omega) hj)
    refine ⟨p, _, rfl, SqT.of upd_same, rfl, _, _, rfl, _, _, rfl, rfl, ?_⟩
    refine ⟨_, rfl, _, rfl, r, _, _, _, rfl, rfl, SqL.of (sB _ _ hr'), eo, op, _, _, _, rfl, rfl, sB.seqT ho, rfl, _, _, rfl, rfl, _, rfl, _, rfl, r, _, _, _, rfl, rfl, SqL.of (sB _ _ hr'), eo, op, _, _, _, rfl, rfl, sB.seqT ho, rfl, ?_⟩
    refine ⟨(by show 2 ≤ sizeLine; decide), fun ot hz_ot => ?_⟩
    generalize hH_ : upd _ ot _ = H4
    obtain ⟨s4, e4⟩ := upd_new hH_ hz_ot
    clear hH_
    have sC := sB.trans s4
    have s24 := s2'.trans s4
    have es4 : H4 fp = some (.lst ws) := (st.trans s4) _ _ es
    have fo : IsF K H4 (.ref ot) (offF (byF frs x j)) := ⟨ot, rfl, SqT.of e4⟩
    refine ⟨_, rfl, .inl ⟨rfl, _, SqL.of es4⟩, ?_⟩
    refine ⟨_, rfl, _, rfl, r, hp, rfl, ⟨_, SqL.of (sC _ _ hr')⟩, ⟨_, SqL.of (s24 _ _ eh)⟩, fun D hD => ?_⟩
    have nDf : D ≠ fp := fun z => by rw [z, es4] at hD; cases hD
    refine comp_zip (K := K) (k1 := false) (k2 := false) (xs := fv) (ys := hv) hD (by rw [fl, sizeLine_eq]; omega) (by omega) (SqL.of (sC _ _ hr')) (SqL.of (s24 _ _ eh)) (fun c ls σ G => (∃ a b : Option V, σ = [a, b, some (.ref ot)]) ∧ Paired (IsF K G) ls ((rowV frs i j x).take c))
      ⟨⟨none, none, rfl⟩, .nil⟩ (fun c u v ls σ H5 t' hu hv' hq eD sm5 ht Ry Rn r1 r2 => ?_) (fun ls σ H5 hq eD sm5 => ?_)
    · obtain ⟨⟨a0, b0, rfl⟩, pl⟩ := hq
      have hc : c < (frs.getD x []).length := by rw [rmx, ← fl]; exact (List.getElem?_eq_some_iff.mp hu).1
      have hc2 : c < (headV frs i j).length := by omega
      have st5 := same_new ht (.tup [u, v])
      have s45 : Same H4 (upd H5 t' (.tup [u, v])) := sm5.trans (hid_le.trans st5)
      have hf := (pair_get pf c _ _ hu (List.getElem?_eq_getElem hc)).same (sC.trans s45)
      have hh := (pair_get pq2 c _ _ hv' (List.getElem?_eq_getElem hc2)).same (s24.trans s45)
      have g := (tf.row (show x < n by omega)).2 _ (List.getElem_mem hc)
      obtain ⟨h1, h2⟩ := hd2 _ (List.getElem_mem hc2)
      refine ⟨t', _, rfl, SqT.of upd_same, rfl, _, _, rfl, _, _, rfl, rfl, ?_⟩
      refine ⟨_, rfl, _, rfl, _, rfl, _, _, _, _, k, 2 * k, rfl, fo.same s45, hh, of1, h1, by omega, fun r6 H6 s6 f6 => ?_⟩
      obtain ⟨t1, t2⟩ := rTi_ok of1 h1 of2 h2
      refine ⟨_, _, _, _, k, k + 2 * k, rfl, hf.same s6, f6, g.2, t1, by omega, fun r7 H7 s7 f7 => ?_⟩
      have s57 := st5.trans (s6.trans s7)
      refine r1 _ _ H7 s57 ⟨⟨_, _, rfl⟩, ?_⟩
      rw [take_next (x := rPl (frs.getD x [])[c] (rTi (offF (byF frs x j)) (headV frs i j)[c])) (by unfold rowV; rw [List.getElem?_zipWith, List.getElem?_eq_getElem hc, List.getElem?_eq_getElem hc2])]
      exact Paired.snoc (fs_same (hid_same s57) pl) (f7.hid (s57 _ _ eD))
    · obtain ⟨_, pl⟩ := hq
      obtain ⟨ro1, _⟩ := row_ok tf hi hj (show x < n by omega) z
      rw [fl, ← ro1, List.take_length] at pl
      have s45 : Same H4 H5 := sm5.trans hid_le
      have sG : Same (hid fp H') (hid fp H5) := hid_same (st.trans (s4.trans s45))
      refine ⟨fp, _, _, rfl, rfl, s45 _ _ es4, (by have := Paired.length pw; rw [List.length_map, List.length_range] at this; rw [sizeLine_eq]; omega), ?_⟩
      refine ⟨_, _, _, ws ++ [.ref D], rfl, by rw [hid_upd]; exact sm'.trans sG, upd_same, ?_⟩
      rw [hid_upd, List.range_succ, List.map_append]
      exact Paired.snoc (Paired.mapP pw fun _ _ q => q.same sG) ⟨D, ls, rfl, sC.free hD, by rw [hid_ne nDf]; exact eD, Paired.mapP pl fun _ _ q => (q.same hid_le).hid (s45 _ _ es4)⟩
  obtain ⟨a, b, c, ws, rfl, sm', es, pw⟩ := h
  have s2' : Same H2 H' := sm'.trans hid_le
  have nhf : hp ≠ fp := fun z => by rw [z, n3] at eh; cases eh
  have wl : ws.length = frs.length := by rw [Paired.length pw, List.length_map, List.length_range, rl]
  rw [rl] at pw
  have hfr : FrAt K H (hid fp H') (.ref hp) (headV frs i j) := ⟨hp, hv, rfl, nH, sm' _ _ eh, fs_same sm' pq2⟩
  have pw2 := paired_set hfr i pw
  refine ⟨_, rfl, _, rfl, _, rfl, fp, ws, _, i, rfl, rfl, es, ?_, ?_⟩
  · unfold ixN
    rw [if_pos (by omega), if_pos (by omega)]
    congr 1
  have e9 : upd H' fp (.lst (ws.set i (.ref hp))) fp = some (.lst (ws.set i (.ref hp))) := upd_same
  have pw3 : Paired (FrAt K H (upd H' fp (.lst (ws.set i (.ref hp))))) (ws.set i (.ref hp)) (rawV frs i j) := Paired.mapP pw2 fun _ _ q => by
    have := q.same (hid_le (D := fp) (H := upd H' fp (.lst (ws.set i (.ref hp)))) |> fun (s : Same _ _) => (by rw [hid_upd] at s; exact s))
    exact this
  have s9 : Same H2 (upd H' fp (.lst (ws.set i (.ref hp)))) := same_upd s2' n3
  generalize upd H' fp (.lst (ws.set i (.ref hp))) = H9 at e9 pw3 s9 ⊢ -- nd
  have sH9 := sA.trans s9
  have rawo := raw_ok tf hi hj z
  have wl2 : (ws.set i (.ref hp)).length = frs.length := by rw [List.length_set]; exact wl
  refine ⟨_, rfl, fp, rfl, ⟨_, SqL.of e9⟩, fun D hD => ?_⟩
  refine comp_same (J := Itl K fp) (xs := ws.set i (.ref hp)) hD (by rw [wl2, sizeLine_eq]; omega) (goL (SqL.of e9)) (stL (SqL.of e9)) (yL (SqL.of e9)) (fun x ys σ G => (∃ k : Option V, σ = [k]) ∧ Paired (FrAt K H G) ys ((dueV frs i j).take x))
    ⟨⟨none, rfl⟩, .nil⟩ (fun x y ys σ H5 hy hq eD sm5 Ry Rn r1 r2 => ?_) (fun ys σ H5 hq eD sm5 => ?_)
  · obtain ⟨⟨k0, rfl⟩, py⟩ := hq
    have hx : x < (rawV frs i j).length := by rw [raw_len, ← wl2]; exact (List.getElem?_eq_some_iff.mp hy).1
    have s95 : Same H9 H5 := sm5.trans hid_le
    obtain ⟨r, fv, rfl, _, hr', pf⟩ := pair_get pw3 x _ _ hy (List.getElem?_eq_getElem hx)
    obtain ⟨ro1, ro2⟩ := rawo _ (List.getElem_mem hx)
    have fl : fv.length = m := by rw [Paired.length pf]; exact ro1
    have er5 := s95 _ _ hr'
    refine ⟨_, rfl, r, rfl, ⟨_, SqL.of er5⟩, fun D2 hD2 => ?_⟩
    have nDD : D2 ≠ D := fun z => by rw [z, eD] at hD2; cases hD2
    refine comp_same (J := Itl K r) (xs := fv) hD2 (by rw [fl, sizeLine_eq]; omega) (goL (SqL.of er5)) (stL (SqL.of er5)) (yL (SqL.of er5)) (fun c ls σ G => (∃ k : Option V, σ = [k]) ∧ Paired (IsF K G) ls (((rawV frs i j)[x].map mk1).take c))
      ⟨⟨none, rfl⟩, .nil⟩ (fun c u ls σ H6 hu hq6 eD6 sm6 Ry6 Rn6 r61 r62 => ?_) (fun ls σ H6 hq6 eD6 sm6 => ?_)
    · obtain ⟨⟨k6, rfl⟩, pl⟩ := hq6
      have hc : c < (rawV frs i j)[x].length := by rw [← Paired.length pf]; exact (List.getElem?_eq_some_iff.mp hu).1
      have s56 : Same H5 H6 := sm6.trans hid_le
      obtain ⟨tp, rfl, ht⟩ := (pair_get pf c _ _ hu (List.getElem?_eq_getElem hc)).same (s95.trans s56)
      obtain ⟨o1, o2⟩ := ro2 _ (List.getElem_mem hc)
      refine ⟨_, rfl, tp, _, _, _, rfl, rfl, ht, rfl, _, rfl, tp, _, _, _, rfl, rfl, ht, rfl, _, _, rfl, o2, lt_big o1.2 (by omega), fun r7 H7 s7 f7 => ?_⟩
      refine r61 _ _ H7 s7 ⟨⟨_, rfl⟩, ?_⟩
      rw [take_next (x := mk1 (rawV frs i j)[x][c]) (by rw [List.getElem?_map, List.getElem?_eq_getElem hc]; rfl)]
      exact Paired.snoc (fs_same (hid_same s7) pl) (f7.hid (s7 _ _ eD6))
    · obtain ⟨_, pl⟩ := hq6
      rw [Paired.length pf, List.take_of_length_le (by rw [List.length_map]; exact Nat.le_refl _)] at pl
      have s56 : Same H5 H6 := sm6.trans hid_le
      refine r1 _ _ H6 s56 ⟨⟨_, rfl⟩, ?_⟩
      rw [take_next (x := (rawV frs i j)[x].map mk1) (by unfold dueV; rw [List.getElem?_map, List.getElem?_eq_getElem hx]; rfl)]
      exact Paired.snoc (Paired.mapP py fun _ _ q => q.same (hid_same s56)) ⟨D2, ls, rfl, (sH9.trans s95).free hD2, by rw [hid_ne nDD]; exact eD6, Paired.mapP pl fun _ _ q => (q.same hid_le).hid (s56 _ _ eD)⟩
  · obtain ⟨_, py⟩ := hq
    rw [wl2, List.take_of_length_le (by unfold dueV; rw [List.length_map, raw_len]; exact Nat.le_refl _)] at py
    exact q D H5 (sH9.trans (sm5.trans hid_le)) ⟨ys, sH9.free hD, eD, Paired.mapP py fun _ _ q => q.same hid_le⟩
end
end Pw


set_option Elab.async false
set_option linter.all false
set_option maxRecDepth 100000
set_option maxHeartbeats 4000000
namespace Pw
open PySem L2
seal PE PT PW PA PS PSs PG PGs PI PIf
def divR (rows : List (List Int)) (d : Int) : List (List Int) := rows.map (·.map fun x => x.fdiv d)
section
variable {P : Program} {w : World} {K : PySem.W.Frag} {mg : Str → Option Value} {base : Heap} {f : Addr} {fd : FuncData}
def spLow : Sp := fun vs H Q _ => ∃ (p : Addr) (part : Int) (rows : List (List Int)) (sc : Int) (Bq : Hp) (n m k : Nat), vs = [.ref p, .int part] ∧ TabF Bq H p rows sc ∧ Same Bq H ∧ Tb n m k rows ∧ 0 < part ∧ part.natAbs < BIG ∧ (∀ H', Same H H' → Q (.ref p) H') ∧ ((∀ r ∈ rows, ∀ x ∈ r, x.fmod part = 0) → ∀ p' H', Same H H' → TabF Bq H' p' (divR rows part) (sc.fdiv part) → Q (.ref p') H')
theorem sc_lowered : FnScope ["tableau", "part", "row", "number"] ["tableau", "part"] (defScope s_lowered) := ⟨rfl, rfl, rfl, by decide +kernel, rfl, by decide +kernel, by decide +kernel⟩
theorem lk_lowered_tableau : (defScope s_lowered).names.lookup ("tableau" : Str) = some .local := by decide +kernel
theorem lk_lowered_part : (defScope s_lowered).names.lookup ("part" : Str) = some .cell := by decide +kernel
theorem lk_lowered_row : (defScope s_lowered).names.lookup ("row" : Str) = some .local := by decide +kernel
theorem lk_lowered_number : (defScope s_lowered).names.lookup ("number" : Str) = some .local := by decide +kernel
theorem ok_lowered (F : Fun K "lowered" "lowered" s_lowered f fd) (B : Blt mg) : FnOk P w K mg base CX0 1 f fd ["tableau", "part"] spLow := by
  refine F.ok sc_lowered (fun vs H Q E h => ?_) (fun cdv A outer s H vs Q E hr h => ?_)
  · obtain ⟨_, _, _, _, _, _, _, _, rfl, _⟩ := h
    rfl
  obtain ⟨p, part, rows, sc, Bq, n, m, k, rfl, ⟨l, hp, rv, _, hl, pr⟩, sB, tb, p0, pb, q0, q1⟩ := h
  have nd := sc_lowered.nd
  have rl : rv.length = rows.length := Paired.length pr
  have hn := tb.hn
  obtain ⟨_, n4, _, m5⟩ := tb.nm
  refine ⟨_, pss_cons (ps_for PassesOwn.never rfl (pi_list (pe_ix ix_tup (pv 0 rfl (Or.inl lk_lowered_tableau)) (pe_int) (fun _ _ => rfl))) (pg_name (i := 2) nd rfl (Or.inl lk_lowered_row)) (pss_one (ps_for PassesOwn.never rfl (pi_list (pv 2 rfl (Or.inl lk_lowered_row))) (pg_name (i := 3) nd rfl (Or.inl lk_lowered_number)) (pss_one (ps_if (pt_cmpR op_ne (pe_op op_modN (pv 3 rfl (Or.inl lk_lowered_number)) (pv 1 rfl (Or.inr (Or.inl lk_lowered_part)))) (pe_int) (nomark _)) (pss_one (ps_ret (pv 0 rfl (Or.inl lk_lowered_tableau)))) (pss_nil))))))
    (pss_one (ps_ret (pe_tup (pa_ListComp (pe_comp rfl (frees_of ["row"] [("part", 1)] ["tableau", "part", "row", "number"] (by decide +kernel)) (visC s_lowered (by decide +kernel)) (by decide +kernel) rfl (by decide +kernel) (fun y hy => PySem.mem_of_lookup hy) (pi_list (pe_ix ix_tup (pv 0 rfl (Or.inl lk_lowered_tableau)) (pe_int) (fun _ _ => rfl))) (fun cl C s H fp pins => pg_name (i := 0) (show (["row", "part"] : List Str).Nodup by decide +kernel) rfl (Or.inl (c_loc (by decide +kernel))) (.inr (c_loc (by decide +kernel)))) (fun cl C s H fp pins => pif_nil) (fun cl C s H fp pins => pe_comp rfl (frees_of ["number"] [("part", 1)] ["row", "part"] (by decide +kernel)) (visCC (by decide +kernel)) (by decide +kernel) rfl (by decide +kernel) (fun y hy => PySem.mem_of_lookup hy) (pi_listK (K := K) rfl (pv 0 rfl (c_vloc (by decide +kernel)))) (fun cl C s H fp pins => pg_name (i := 0) (show (["number", "part"] : List Str).Nodup by decide +kernel) rfl (Or.inl (c_loc (by decide +kernel))) (.inr (c_loc (by decide +kernel)))) (fun cl C s H fp pins => pif_nil) (fun cl C s H fp pins => pe_op op_fdivB (pv 0 rfl (c_vloc (by decide +kernel))) (pv 1 rfl (c_free (by decide +kernel)))))) (pa_BinOp (pe_op op_fdivB (pe_ix ix_tup (pv 0 rfl (Or.inl lk_lowered_tableau)) (pe_int) (fun _ _ => rfl)) (pv 1 rfl (Or.inr (Or.inl lk_lowered_part)))) pa_nil))))), ?_⟩
  refine ⟨_, rfl, p, _, _, _, rfl, rfl, SqT.of hp, rfl, l, rfl, ⟨_, SqL.of hl⟩, ?_⟩
  refine for_list (xs := rv) (fun i σ H' => ∃ (a b : Option V), σ = [some (.ref p), some (.int part), a, b] ∧ H' = H ∧ ∀ r ∈ rows.take i, ∀ x ∈ r, x.fmod part = 0)
    ⟨none, none, rfl, rfl, by simp⟩ (fun i σ H' _ h => ?_) (fun i x σ H' hx h => ?_) (fun σ H' h => ?_)
  · obtain ⟨_, _, _, rfl, _⟩ := h
    exact SqL.of hl
  · obtain ⟨a, b, rfl, rfl, ha⟩ := h
    have hi : i < rows.length := by rw [← rl]; exact (List.getElem?_eq_some_iff.mp hx).1
    obtain ⟨r, rfl, _, hr'⟩ := pair_get pr i _ _ hx (List.getElem?_eq_getElem hi)
    refine ⟨_, rfl, r, rfl, ⟨_, SqL.of hr'⟩, ?_⟩
    refine for_list (xs := rows[i].map V.int) (fun j σ H2 => ∃ (b : Option V), σ = [some (.ref p), some (.int part), some (.ref r), b] ∧ H2 = H' ∧ ∀ x ∈ rows[i].take j, x.fmod part = 0)
      ⟨b, rfl, rfl, by simp⟩ (fun j σ H2 _ h => ?_) (fun j y σ H2 hy h => ?_) (fun σ H2 h => ?_)
    · obtain ⟨_, _, rfl, _⟩ := h
      exact SqL.of hr'
    · obtain ⟨b, rfl, rfl, hb⟩ := h
      rw [List.getElem?_map] at hy
      obtain ⟨z, hz, rfl⟩ := Option.map_eq_some_iff.mp hy
      refine ⟨_, rfl, _, rfl, _, _, rfl, rfl, by omega, rfl, _, rfl, ?_⟩
      by_cases e : z.fmod part = 0
      · refine iteN (neN e) ⟨_, rfl, rfl, fun x hx' => ?_⟩
        rw [take_next hz] at hx'
        rcases List.mem_append.mp hx' with h | h
        · exact hb x h
        · rw [List.mem_singleton.mp h]; exact e
      · exact iteY (neY e) ⟨_, rfl, q0 _ Same.refl'⟩
    · obtain ⟨b, rfl, rfl, hb⟩ := h
      rw [List.length_map, List.take_length] at hb
      refine ⟨_, _, rfl, rfl, fun r' hr2 => ?_⟩
      rw [take_next (List.getElem?_eq_getElem hi)] at hr2
      rcases List.mem_append.mp hr2 with h | h
      · exact ha r' h
      · rw [List.mem_singleton.mp h]; exact hb
  obtain ⟨a, b, rfl, rfl, ha⟩ := h
  rw [rl, List.take_length] at ha
  refine ⟨_, rfl, p, _, _, _, rfl, rfl, SqT.of hp, rfl, l, rfl, ⟨_, SqL.of hl⟩, fun D hD => ?_⟩
  refine comp_same (J := Itl K l) (xs := rv) hD (by rw [rl, sizeLine_eq]; omega) (goL (SqL.of hl)) (stL (SqL.of hl)) (yL (SqL.of hl)) (fun i ys σ G => (∃ k : Option V, σ = [k, some (.int part)]) ∧ Paired (RowAt Bq G) ys ((divR rows part).take i))
    ⟨⟨none, rfl⟩, .nil⟩ (fun i x ys σ H1 hx hq eD sm Ry Rn r1 r2 => ?_) (fun ys σ H1 hq eD sm => ?_)
  · obtain ⟨⟨k0, rfl⟩, pq⟩ := hq
    have hi : i < rows.length := by rw [← rl]; exact (List.getElem?_eq_some_iff.mp hx).1
    obtain ⟨r, rfl, _, hr'⟩ := pair_get pr i _ _ hx (List.getElem?_eq_getElem hi)
    have sA : Same H' H1 := sm.trans hid_le
    have rm := tb.hm _ (List.getElem_mem hi)
    refine ⟨_, rfl, r, rfl, ⟨_, SqL.of (sA _ _ hr')⟩, fun D2 hD2 => ?_⟩
    have nDD : D2 ≠ D := fun z => by rw [z, eD] at hD2; cases hD2
    refine comp_same (J := Itl K r) (xs := rows[i].map V.int) hD2 (by rw [List.length_map, rm, sizeLine_eq]; omega) (goL (SqL.of (sA _ _ hr'))) (stL (SqL.of (sA _ _ hr'))) (yL (SqL.of (sA _ _ hr'))) (fun c ls σ G => (∃ k : Option V, σ = [k, some (.int part)]) ∧ ls = ((rows[i].map fun x => x.fdiv part).take c).map V.int)
      ⟨⟨none, rfl⟩, rfl⟩ (fun c u ls σ H6 hu hq6 eD6 sm6 Ry6 Rn6 r61 r62 => ?_) (fun ls σ H6 hq6 eD6 sm6 => ?_)
    · obtain ⟨⟨k6, rfl⟩, rfl⟩ := hq6
      rw [List.getElem?_map] at hu
      obtain ⟨z, hz, rfl⟩ := Option.map_eq_some_iff.mp hu
      refine ⟨_, rfl, _, rfl, _, _, rfl, rfl, ⟨by omega, log2_of pb⟩, r61 _ _ H6 Same.refl' ⟨⟨_, rfl⟩, ?_⟩⟩
      rw [take_next (x := z.fdiv part) (by rw [List.getElem?_map, hz]; rfl), List.map_append]
      rfl
    · obtain ⟨_, rfl⟩ := hq6
      rw [List.length_map, List.take_of_length_le (by rw [List.length_map]; exact Nat.le_refl _)] at eD6
      have s56 : Same H1 H6 := sm6.trans hid_le
      refine r1 _ _ H6 s56 ⟨⟨_, rfl⟩, ?_⟩
      rw [take_next (x := rows[i].map fun x => x.fdiv part) (by unfold divR; rw [List.getElem?_map, List.getElem?_eq_getElem hi]; rfl)]
      exact Paired.snoc (Paired.mapP pq fun _ _ q => q.same (hid_same s56)) ⟨D2, rfl, (sB.trans sA).free hD2, by rw [hid_ne nDD]; exact eD6⟩
  · obtain ⟨_, pq⟩ := hq
    rw [rl, List.take_of_length_le (by unfold divR; rw [List.length_map]; exact Nat.le_refl _)] at pq
    have sA : Same H' H1 := sm.trans hid_le
    refine ⟨_, rfl, p, _, _, _, rfl, rfl, SqT.of (sA _ _ hp), rfl, _, rfl, _, _, rfl, rfl, ⟨by omega, log2_of pb⟩, ?_⟩
    refine ⟨(by show 2 ≤ sizeLine; decide), fun t hz_t => ?_⟩
    generalize hH_ : upd _ t _ = H2
    obtain ⟨s2, e2⟩ := upd_new hH_ hz_t
    clear hH_
    exact q1 ha t H2 (sA.trans s2) ⟨D, e2, ys, sB.free hD, s2 _ _ eD, Paired.mapP pq fun _ _ q => q.same (hid_le.trans s2)⟩
def pvA (rows : List (List Int)) (i j : Nat) : Int := (rows.getD i []).getD j 0
def topR (rows : List (List Int)) (i j : Nat) : List Int := if pvA rows i j < 0 then (rows.getD i []).map fun x => -x else rows.getD i []
def sizR (rows : List (List Int)) (i j : Nat) : Int := if pvA rows i j < 0 then -pvA rows i j else pvA rows i j
def rowP (rows : List (List Int)) (sc : Int) (i j x : Nat) : List Int := if x = i then (topR rows i j).map fun t => t * sc else List.zipWith (fun y t => y * sizR rows i j - pvA rows x j * t) (rows.getD x []) (topR rows i j)
def pivR (rows : List (List Int)) (sc : Int) (i j : Nat) : List (List Int) := (List.range rows.length).map (rowP rows sc i j)
theorem Tb.row {n m k : Nat} {rows : List (List Int)} (h : Tb n m k rows) {i : Nat} (hi : i < n) : (rows.getD i []).length = m ∧ bdR k (rows.getD i []) := by
  have hm : rows.getD i [] ∈ rows := getD_mem' (by rw [h.hn]; exact hi)
  exact ⟨h.hm _ hm, h.hb _ hm⟩
theorem Tb.at_ {n m k : Nat} {rows : List (List Int)} (h : Tb n m k rows) {i j : Nat} (hi : i < n) (hj : j < m) : (pvA rows i j).natAbs < 2 ^ k := (h.row hi).2 _ (getD_mem' (by rw [(h.row hi).1]; exact hj))
theorem top_ok {n m k : Nat} {rows : List (List Int)} (h : Tb n m k rows) {i j : Nat} (hi : i < n) : (topR rows i j).length = m ∧ bdR k (topR rows i j) := by
  unfold topR
  split
  · refine ⟨by rw [List.length_map]; exact (h.row hi).1, fun x hx => ?_⟩
    obtain ⟨y, hy, rfl⟩ := List.mem_map.mp hx
    rw [Int.natAbs_neg]
    exact (h.row hi).2 y hy
  · exact h.row hi
theorem siz_ok {n m k : Nat} {rows : List (List Int)} (h : Tb n m k rows) {i j : Nat} (hi : i < n) (hj : j < m) (z : pvA rows i j ≠ 0) : 0 < sizR rows i j ∧ (sizR rows i j).natAbs < 2 ^ k := by
  have := h.at_ hi hj
  unfold sizR
  split
  · exact ⟨by omega, by rw [Int.natAbs_neg]; exact this⟩
  · exact ⟨by omega, this⟩
theorem rowP_ok {n m k : Nat} {rows : List (List Int)} (h : Tb n m k rows) {sc : Int} (hs : sc.natAbs < 2 ^ k) {i j x : Nat} (hi : i < n) (hj : j < m) (hx : x < n) (z : pvA rows i j ≠ 0) : (rowP rows sc i j x).length = m ∧ bdR (k + k + 1) (rowP rows sc i j x) := by
  obtain ⟨t1, t2⟩ := top_ok (j := j) h hi
  obtain ⟨_, s2⟩ := siz_ok h hi hj z
  unfold rowP
  split
  · refine ⟨by rw [List.length_map]; exact t1, fun y hy => ?_⟩
    obtain ⟨t, ht, rfl⟩ := List.mem_map.mp hy
    exact pow_up (mul_lt (t2 t ht) hs) (by omega)
  · refine ⟨by rw [List.length_zipWith, t1, (h.row hx).1, Nat.min_self], fun y hy => ?_⟩
    obtain ⟨c, hc, rfl⟩ := List.mem_iff_getElem.mp hy
    rw [List.getElem_zipWith]
    rw [List.length_zipWith] at hc
    have a1 := mul_lt ((h.row hx).2 _ (List.getElem_mem (show c < (rows.getD x []).length by omega))) s2
    have a2 := mul_lt (h.at_ hx hj) (t2 _ (List.getElem_mem (show c < (topR rows i j).length by omega)))
    have a3 := add_lt a1 (b := -(pvA rows x j * (topR rows i j)[c])) (by rw [Int.natAbs_neg]; exact a2)
    rw [← Int.sub_eq_add_neg] at a3
    exact a3
theorem piv_ok {n m k : Nat} {rows : List (List Int)} (h : Tb n m k rows) {sc : Int} (hs : sc.natAbs < 2 ^ k) {i j : Nat} (hi : i < n) (hj : j < m) (z : pvA rows i j ≠ 0) : Tb n m (k + k + 1) (pivR rows sc i j) := by
  refine ⟨by unfold pivR; rw [List.length_map, List.length_range]; exact h.hn, fun r hr => ?_, fun r hr => ?_, h.nm⟩
  · obtain ⟨x, hx, rfl⟩ := List.mem_map.mp hr
    exact (rowP_ok h hs hi hj (by have := List.mem_range.mp hx; have := h.hn; omega) z).1
  · obtain ⟨x, hx, rfl⟩ := List.mem_map.mp hr
    exact (rowP_ok h hs hi hj (by have := List.mem_range.mp hx; have := h.hn; omega) z).2
def PivOk (rows : List (List Int)) (sc : Int) (i j : Nat) (rows' : List (List Int)) (sc' : Int) : Prop :=
  (rows' = pivR rows sc i j ∧ sc' = sc * sizR rows i j) ∨ ((∀ r ∈ pivR rows sc i j, ∀ x ∈ r, x.fmod sc = 0) ∧ rows' = divR (pivR rows sc i j) sc ∧ sc' = (sc * sizR rows i j).fdiv sc)
def spPiv : Sp := fun vs H Q _ => ∃ (p : Addr) (rows : List (List Int)) (sc : Int) (n m k i j : Nat), vs = [.ref p, .int i, .int j] ∧ TabF e0 H p rows sc ∧ Tb n m k rows ∧ 0 < sc ∧ sc.natAbs < 2 ^ k ∧ k ≤ 300 ∧ i < n ∧ j < m ∧ pvA rows i j ≠ 0 ∧ ∀ p' rows' sc' H', Same H H' → TabF H H' p' rows' sc' → PivOk rows sc i j rows' sc' → Q (.ref p') H'
theorem sc_pivoted : FnScope ["tableau", "at", "column", "rows", "scale", "pivot", "top", "size", "made", "place", "row", "held"] ["tableau", "at", "column"] (defScope s_pivoted) := ⟨rfl, rfl, rfl, by decide +kernel, rfl, by decide +kernel, by decide +kernel⟩
theorem lk_pivoted_tableau : (defScope s_pivoted).names.lookup ("tableau" : Str) = some .local := by decide +kernel
theorem lk_pivoted_at : (defScope s_pivoted).names.lookup ("at" : Str) = some .local := by decide +kernel
theorem lk_pivoted_column : (defScope s_pivoted).names.lookup ("column" : Str) = some .local := by decide +kernel
theorem lk_pivoted_rows : (defScope s_pivoted).names.lookup ("rows" : Str) = some .local := by decide +kernel
theorem lk_pivoted_scale : (defScope s_pivoted).names.lookup ("scale" : Str) = some .cell := by decide +kernel
theorem lk_pivoted_pivot : (defScope s_pivoted).names.lookup ("pivot" : Str) = some .local := by decide +kernel
theorem lk_pivoted_top : (defScope s_pivoted).names.lookup ("top" : Str) = some .local := by decide +kernel
theorem lk_pivoted_size : (defScope s_pivoted).names.lookup ("size" : Str) = some .cell := by decide +kernel
theorem lk_pivoted_made : (defScope s_pivoted).names.lookup ("made" : Str) = some .local := by decide +kernel
theorem lk_pivoted_place : (defScope s_pivoted).names.lookup ("place" : Str) = some .local := by decide +kernel
theorem lk_pivoted_row : (defScope s_pivoted).names.lookup ("row" : Str) = some .local := by decide +kernel
theorem lk_pivoted_held : (defScope s_pivoted).names.lookup ("held" : Str) = some .cell := by decide +kernel
theorem lk_pivoted_abs : (defScope s_pivoted).names.lookup ("abs" : Str) = some .globalImplicit := by decide +kernel
theorem lk_pivoted_enumerate : (defScope s_pivoted).names.lookup ("enumerate" : Str) = some .globalImplicit := by decide +kernel
theorem lk_pivoted_list : (defScope s_pivoted).names.lookup ("list" : Str) = some .globalImplicit := by decide +kernel
theorem lk_pivoted_lowered : (defScope s_pivoted).names.lookup ("lowered" : Str) = some .globalImplicit := by decide +kernel
theorem lk_pivoted_zip : (defScope s_pivoted).names.lookup ("zip" : Str) = some .globalImplicit := by decide +kernel
theorem ok_pivoted {fDLr : Addr} {dDLr : FuncData} (F : Fun K "pivoted" "pivoted" s_pivoted f fd) (B : Blt mg) (DLr : DefAt K mg "lowered" s_lowered fDLr dDLr ["tableau", "part"]) : FnOk P w K mg base CX0 2 f fd ["tableau", "at", "column"] spPiv := by
  have OL : FnOk P w K mg base CX0 1 fDLr dDLr ["tableau", "part"] spLow := ok_lowered DLr.F B
  refine F.ok sc_pivoted (fun vs H Q E h => ?_) (fun cdv A outer s H vs Q E hr h => ?_)
  · obtain ⟨_, _, _, _, _, _, _, _, rfl, _⟩ := h
    rfl
  obtain ⟨p, rows, sc, n, m, k, i, j, rfl, ⟨l, hp, rv, _, hl, pr⟩, tb, s0, sb, k3, hi, hj, z, q⟩ := h
  have nd := sc_pivoted.nd
  have rl : rv.length = rows.length := Paired.length pr
  have hn := tb.hn
  obtain ⟨_, n4, _, m5⟩ := tb.nm
  obtain ⟨r0, er0, _, hr0⟩ := row_at pr (show i < rows.length by omega)
  have rm0 := (tb.row hi).1
  obtain ⟨tl, tbd⟩ := top_ok (j := j) tb hi
  obtain ⟨sz0, szb⟩ := siz_ok tb hi hj z
  have fz : ∀ {x y : Int}, x.natAbs < 2 ^ k → y.natAbs < 2 ^ k → CMulF x y := fun hx hy => mf (by omega) hx hy
  refine ⟨_, pss_cons (ps_set (i := 3) nd rfl (Or.inl lk_pivoted_rows) (pe_ix ix_tup (pv 0 rfl (Or.inl lk_pivoted_tableau)) (pe_int) (fun _ _ => rfl)))
    (pss_cons (ps_set (i := 4) nd rfl (Or.inr lk_pivoted_scale) (pe_ix ix_tup (pv 0 rfl (Or.inl lk_pivoted_tableau)) (pe_int) (fun _ _ => rfl)))
    (pss_cons (ps_set (i := 5) nd rfl (Or.inl lk_pivoted_pivot) (pe_ix ix_list (pe_ix ix_list (pv 3 rfl (Or.inl lk_pivoted_rows)) (pv 1 rfl (Or.inl lk_pivoted_at)) (fun _ _ => rfl)) (pv 2 rfl (Or.inl lk_pivoted_column)) (fun _ _ => rfl)))
    (pss_cons (ps_if (pt_cmpR op_lt (pv 5 rfl (Or.inl lk_pivoted_pivot)) (pe_int) (nomark _)) (pss_one (ps_setc (i0 := 6) nd rfl lk_pivoted_top rfl (frees_of ["number"] [] ["tableau", "at", "column", "rows", "scale", "pivot", "top", "size", "made", "place", "row", "held"] (by decide +kernel)) (noFree rfl) (by decide +kernel) rfl (by decide +kernel) (fun y hy => PySem.mem_of_lookup hy) (pi_list (pe_ix ix_list (pv 3 rfl (Or.inl lk_pivoted_rows)) (pv 1 rfl (Or.inl lk_pivoted_at)) (fun _ _ => rfl))) (fun cl C s H fp pins => pg_name (i := 0) (show (["number"] : List Str).Nodup by decide +kernel) rfl (Or.inl (c_loc (by decide +kernel))) (.inr (c_loc (by decide +kernel)))) (fun cl C s H fp pins => pif_nil) (fun cl C s H fp pins => pe_un un_neg (pv 0 rfl (c_vloc (by decide +kernel)))))) (pss_one (ps_set (i := 6) nd rfl (Or.inl lk_pivoted_top) (pe_callTy call_list_of lk_pivoted_list B.list bt_list (pa_Subscript (pe_ix ix_list (pv 3 rfl (Or.inl lk_pivoted_rows)) (pv 1 rfl (Or.inl lk_pivoted_at)) (fun _ _ => rfl)) pa_nil)))))
    (pss_cons (ps_set (i := 7) nd rfl (Or.inr lk_pivoted_size) (pe_callB call_abs lk_pivoted_abs B.abs bt_abs (pa_Name (pv 5 rfl (Or.inl lk_pivoted_pivot)) pa_nil)))
    (pss_cons (ps_set (i := 8) nd rfl (Or.inl lk_pivoted_made) (pe_lst pa_nil))
    (pss_cons (ps_for PassesOwn.never rfl (pi_enum lk_pivoted_enumerate B.enumerate (pa_Name (pv 3 rfl (Or.inl lk_pivoted_rows)) pa_nil)) (pg_tup rfl (pgs_cons (pg_name (i := 9) nd rfl (Or.inl lk_pivoted_place)) (pgs_cons (pg_name (i := 10) nd rfl (Or.inl lk_pivoted_row)) (pgs_nil)))) (pss_one (ps_if (pt_cmpR op_eq (pv 9 rfl (Or.inl lk_pivoted_place)) (pv 1 rfl (Or.inl lk_pivoted_at)) (nomark _)) (pss_one (ps_expr (pe_bm PySem.F.plainAttrs_list PySem.F.slot_list_append PySem.F.type_list_append mt_append (pv 8 rfl (Or.inl lk_pivoted_made)) (pa_ListComp (pe_comp rfl (frees_of ["number"] [("scale", 4)] ["tableau", "at", "column", "rows", "scale", "pivot", "top", "size", "made", "place", "row", "held"] (by decide +kernel)) (visC s_pivoted (by decide +kernel)) (by decide +kernel) rfl (by decide +kernel) (fun y hy => PySem.mem_of_lookup hy) (pi_list (pv 6 rfl (Or.inl lk_pivoted_top))) (fun cl C s H fp pins => pg_name (i := 0) (show (["number", "scale"] : List Str).Nodup by decide +kernel) rfl (Or.inl (c_loc (by decide +kernel))) (.inr (c_loc (by decide +kernel)))) (fun cl C s H fp pins => pif_nil) (fun cl C s H fp pins => pe_op op_mulF (pv 0 rfl (c_vloc (by decide +kernel))) (pv 1 rfl (c_free (by decide +kernel))))) pa_nil)))) (pss_cons (ps_set (i := 11) nd rfl (Or.inr lk_pivoted_held) (pe_ix ix_list (pv 10 rfl (Or.inl lk_pivoted_row)) (pv 2 rfl (Or.inl lk_pivoted_column)) (fun _ _ => rfl)))
    (pss_one (ps_expr (pe_bm PySem.F.plainAttrs_list PySem.F.slot_list_append PySem.F.type_list_append mt_append (pv 8 rfl (Or.inl lk_pivoted_made)) (pa_ListComp (pe_comp rfl (frees_of ["number", "taken"] [("size", 7), ("held", 11)] ["tableau", "at", "column", "rows", "scale", "pivot", "top", "size", "made", "place", "row", "held"] (by decide +kernel)) (visC s_pivoted (by decide +kernel)) (by decide +kernel) rfl (by decide +kernel) (fun y hy => PySem.mem_of_lookup hy) (pi_zip false false lk_pivoted_zip B.zip (pa_Name (pv 10 rfl (Or.inl lk_pivoted_row)) (pa_Name (pv 6 rfl (Or.inl lk_pivoted_top)) pa_nil))) (pgc2 (i := 0) (j := 1) rfl (show (["number", "taken", "size", "held"] : List Str).Nodup by decide +kernel) rfl rfl (by decide +kernel) (by decide +kernel)) (fun cl C s H fp pins => pif_nil) (fun cl C s H fp pins => pe_op op_sub (pe_op op_mulF (pv 0 rfl (c_vloc (by decide +kernel))) (pv 2 rfl (c_free (by decide +kernel)))) (pe_op op_mulF (pv 3 rfl (c_free (by decide +kernel))) (pv 1 rfl (c_vloc (by decide +kernel)))))) pa_nil))))))))
    (pss_one (ps_ret (pe_call OL hr lk_pivoted_lowered DLr.m DLr.F.kp DLr.b .nil pass0 (pa_Tuple (pe_tup (pa_Name (pv 8 rfl (Or.inl lk_pivoted_made)) (pa_BinOp (pe_op op_mulF (pv 4 rfl (Or.inr (Or.inl lk_pivoted_scale))) (pv 7 rfl (Or.inr (Or.inl lk_pivoted_size)))) pa_nil))) (pa_Name (pv 4 rfl (Or.inr (Or.inl lk_pivoted_scale))) pa_nil))))))))))), ?_⟩
  refine ⟨_, rfl, p, _, _, _, rfl, rfl, SqT.of hp, rfl, _, rfl, p, _, _, _, rfl, rfl, SqT.of hp, rfl, ?_⟩
  refine ⟨_, rfl, _, rfl, l, _, _, _, rfl, rfl, SqL.of hl, er0, _, rfl, r0, _, _, _, rfl, rfl, SqL.of hr0, int_at (show j < (rows.getD i []).length by omega), ?_⟩
  dsimp only [tSeq, gName]
  refine ifS_jn (b := decide (pvA rows i j < 0)) (fun σ' H' => ∃ tp : Addr, σ' = [some (.ref p), some (.int i), some (.int j), some (.ref l), some (.int sc), some (.int (pvA rows i j)), some (.ref tp), none, none, none, none, none] ∧ Same H H' ∧ H' tp = some (.lst ((topR rows i j).map V.int)))
    (fun R hR => ⟨_, rfl, _, _, rfl, rfl, _, rfl, hR _ Same.refl'⟩) (fun c H1 s1 Dn hDn => ?_) (fun c H1 s1 Dn hDn => ?_) ?_
  · have er1 := s1 _ _ hr0
    refine ⟨_, rfl, _, rfl, l, _, _, _, rfl, rfl, SqL.of (s1 _ _ hl), er0, r0, rfl, ⟨_, SqL.of er1⟩, fun D hD => ?_⟩
    refine comp_same (J := Itl K r0) (xs := (rows.getD i []).map V.int) hD (by rw [List.length_map, rm0, sizeLine_eq]; omega) (goL (SqL.of er1)) (stL (SqL.of er1)) (yL (SqL.of er1)) (fun c ls σ G => (∃ k : Option V, σ = [k]) ∧ ls = (((rows.getD i []).map fun x => -x).take c).map V.int)
      ⟨⟨none, rfl⟩, rfl⟩ (fun c u ls σ H6 hu hq6 eD6 sm6 Ry6 Rn6 r61 r62 => ?_) (fun ls σ H6 hq6 eD6 sm6 => ?_)
    · obtain ⟨⟨k6, rfl⟩, rfl⟩ := hq6
      rw [List.getElem?_map] at hu
      obtain ⟨y, hy, rfl⟩ := Option.map_eq_some_iff.mp hu
      refine ⟨_, rfl, _, rfl, r61 _ _ H6 Same.refl' ⟨⟨_, rfl⟩, ?_⟩⟩
      rw [take_next (x := -y) (by rw [List.getElem?_map, hy]; rfl), List.map_append]
      rfl
    · obtain ⟨_, rfl⟩ := hq6
      rw [List.length_map, List.take_of_length_le (by rw [List.length_map]; exact Nat.le_refl _)] at eD6
      refine hDn _ _ ⟨D, rfl, s1.trans (sm6.trans hid_le), ?_⟩
      unfold topR
      rw [if_pos (of_decide_eq_true c)]
      exact eD6
  · refine ⟨_, rfl, _, rfl, l, _, _, _, rfl, rfl, SqL.of (s1 _ _ hl), er0, r0, _, rfl, .inl (SqL.of (s1 _ _ hr0)), fun x hx => ?_⟩
    refine hDn _ _ ⟨x, rfl, s1.trans (same_new hx _), ?_⟩
    unfold topR
    rw [if_neg (of_decide_eq_false c)]
    exact upd_same
  rintro σ' H1 ⟨tp, rfl, s1, et⟩
  refine ⟨_, rfl, _, rfl, ?_⟩
  change tSeq _ _ _ [some (.ref p), some (.int i), some (.int j), some (.ref l), some (.int sc), some (.int (pvA rows i j)), some (.ref tp), some (.int (sizR rows i j)), none, none, none, none] _
  refine ⟨(by show 0 ≤ sizeLine; decide), fun mp n2 => ?_⟩
  generalize hH_ : upd _ mp _ = H2
  obtain ⟨s2, e2⟩ := upd_new hH_ n2
  clear hH_
  have s12 := s1.trans s2
  refine ⟨_, rfl, l, rfl, ⟨_, SqL.of (s12 _ _ hl)⟩, ?_⟩
  refine for_enum (xs := rv) (fun x σ H' => ∃ (a b c : Option V) (ws : List V), σ = [some (.ref p), some (.int i), some (.int j), some (.ref l), some (.int sc), some (.int (pvA rows i j)), some (.ref tp), some (.int (sizR rows i j)), some (.ref mp), a, b, c] ∧ Same H1 (hid mp H') ∧ H' mp = some (.lst ws) ∧ Paired (RowAt H (hid mp H')) ws ((List.range x).map (rowP rows sc i j)))
    ⟨none, none, none, [], rfl, (fun b o e => by rw [hid_ne (ne_of_none e n2)]; exact s2 b o e), e2, .nil⟩ (fun x σ H' _ h => ?_) (fun x y σ H' hy h pt hp' => ?_) (fun σ H' h => ?_)
  · obtain ⟨_, _, _, _, _, sm, _⟩ := h
    exact SqL.of ((s1.trans (sm.trans hid_le)) _ _ hl)
  · obtain ⟨a, b, c, ws, rfl, sm', es, pw⟩ := h
    have hx : x < rows.length := by rw [← rl]; exact (List.getElem?_eq_some_iff.mp hy).1
    have st := same_new hp' (.tup [.int x, y])
    have s2' : Same H1 (upd H' pt (.tup [.int x, y])) := (sm'.trans hid_le).trans st
    have sB := s1.trans s2'
    obtain ⟨r, rfl, _, hr'⟩ := pair_get pr x _ _ hy (List.getElem?_eq_getElem hx)
    have gi : rows.getD x [] = rows[x] := by simp [hx]
    rw [← gi] at hr'
    have rmx := (tb.row (show x < n by omega))
    have es1 := st _ _ es
    have et1 := s2' _ _ et
    have wl : ws.length = x := by rw [Paired.length pw, List.length_map, List.length_range]
    refine ⟨pt, _, rfl, SqT.of upd_same, rfl, _, _, rfl, _, _, rfl, rfl, ?_⟩
    refine ⟨_, rfl, _, rfl, rfl, _, rfl, ?_⟩
    have fin : ∀ (D : Addr) (H5 : Hp) (a b c : Option V), upd H' pt (.tup [.int x, .ref r]) D = none → Same (upd H' pt (.tup [.int x, .ref r])) H5 → H5 D = some (.lst ((rowP rows sc i j x).map V.int)) →
        ∃ (a' b' c' : Option V) (ws' : List V), [some (.ref p), some (.int i), some (.int j), some (.ref l), some (.int sc), some (.int (pvA rows i j)), some (.ref tp), some (.int (sizR rows i j)), some (.ref mp), a, b, c] = [some (.ref p), some (.int i), some (.int j), some (.ref l), some (.int sc), some (.int (pvA rows i j)), some (.ref tp), some (.int (sizR rows i j)), some (.ref mp), a', b', c'] ∧ Same H1 (hid mp (upd H5 mp (.lst (ws ++ [.ref D])))) ∧ upd H5 mp (.lst (ws ++ [.ref D])) mp = some (.lst ws') ∧ Paired (RowAt H (hid mp (upd H5 mp (.lst (ws ++ [.ref D]))))) ws' ((List.range (x + 1)).map (rowP rows sc i j)) := by
      intro D H5 a b c hD s5 eD
      have nDm : D ≠ mp := fun z => by rw [z, es1] at hD; cases hD
      have sG : Same (hid mp H') (hid mp H5) := hid_same (st.trans s5)
      refine ⟨_, _, _, ws ++ [.ref D], rfl, by rw [hid_upd]; exact sm'.trans sG, upd_same, ?_⟩
      rw [hid_upd, List.range_succ, List.map_append]
      exact Paired.snoc (Paired.mapP pw fun _ _ q => q.same sG) ⟨D, rfl, sB.free hD, by rw [hid_ne nDm]; exact eD⟩
    by_cases e : x = i
    · refine iteY (eqY (by omega)) ?_
      refine ⟨_, rfl, .inl ⟨rfl, _, SqL.of es1⟩, ?_⟩
      refine ⟨_, rfl, tp, rfl, ⟨_, SqL.of et1⟩, fun D hD => ?_⟩
      refine comp_same (J := Itl K tp) (xs := (topR rows i j).map V.int) hD (by rw [List.length_map, tl, sizeLine_eq]; omega) (goL (SqL.of et1)) (stL (SqL.of et1)) (yL (SqL.of et1)) (fun c ls σ G => (∃ k : Option V, σ = [k, some (.int sc)]) ∧ ls = (((topR rows i j).map fun t => t * sc).take c).map V.int)
        ⟨⟨none, rfl⟩, rfl⟩ (fun c u ls σ H6 hu hq6 eD6 sm6 Ry6 Rn6 r61 r62 => ?_) (fun ls σ H6 hq6 eD6 sm6 => ?_)
      · obtain ⟨⟨k6, rfl⟩, rfl⟩ := hq6
        rw [List.getElem?_map] at hu
        obtain ⟨y, hy, rfl⟩ := Option.map_eq_some_iff.mp hu
        refine ⟨_, rfl, _, rfl, _, _, rfl, rfl, fz (tbd _ (List.mem_of_getElem? hy)) sb, r61 _ _ H6 Same.refl' ⟨⟨_, rfl⟩, ?_⟩⟩
        rw [take_next (x := y * sc) (by rw [List.getElem?_map, hy]; rfl), List.map_append]
        rfl
      · obtain ⟨_, rfl⟩ := hq6
        rw [List.length_map, List.take_of_length_le (by rw [List.length_map]; exact Nat.le_refl _)] at eD6
        have s6 := sm6.trans hid_le
        refine ⟨mp, _, _, rfl, rfl, s6 _ _ es1, (by rw [wl, sizeLine_eq]; omega), ?_⟩
        refine fin D H6 _ _ _ hD s6 ?_
        unfold rowP
        rw [if_pos e]
        exact eD6
    · refine iteN (eqN (by omega)) ?_
      refine ⟨_, rfl, _, rfl, r, _, _, _, rfl, rfl, SqL.of (sB _ _ hr'), int_at (show j < (rows.getD x []).length by omega), ?_⟩
      refine ⟨_, rfl, .inl ⟨rfl, _, SqL.of es1⟩, ?_⟩
      refine ⟨_, rfl, _, rfl, r, tp, rfl, ⟨_, SqL.of (sB _ _ hr')⟩, ⟨_, SqL.of et1⟩, fun D hD => ?_⟩
      refine comp_zip (K := K) (k1 := false) (k2 := false) (xs := (rows.getD x []).map V.int) (ys := (topR rows i j).map V.int) hD (by rw [List.length_map, rmx.1, sizeLine_eq]; omega) (by rw [List.length_map, List.length_map, rmx.1, tl]) (SqL.of (sB _ _ hr')) (SqL.of et1) (fun c ls σ G => (∃ a b : Option V, σ = [a, b, some (.int (sizR rows i j)), some (.int (pvA rows x j))]) ∧ ls = ((rowP rows sc i j x).take c).map V.int)
        ⟨⟨none, none, rfl⟩, rfl⟩ (fun c u v ls σ H5 t' hu hv' hq eD sm5 ht Ry Rn r1 r2 => ?_) (fun ls σ H5 hq eD sm5 => ?_)
      · obtain ⟨⟨a0, b0, rfl⟩, rfl⟩ := hq
        rw [List.getElem?_map] at hu hv'
        obtain ⟨y, hy1, rfl⟩ := Option.map_eq_some_iff.mp hu
        obtain ⟨t, ht1, rfl⟩ := Option.map_eq_some_iff.mp hv'
        have st5 := same_new ht (.tup [.int y, .int t])
        refine ⟨t', _, rfl, SqT.of upd_same, rfl, _, _, rfl, _, _, rfl, rfl, ?_⟩
        refine ⟨_, rfl, _, rfl, _, _, rfl, rfl, fz (rmx.2 _ (List.mem_of_getElem? hy1)) szb, _, rfl, _, rfl, _, _, rfl, rfl, fz (tb.at_ (by omega) hj) (tbd _ (List.mem_of_getElem? ht1)), _, _, rfl, rfl, r1 _ _ _ st5 ⟨⟨_, _, rfl⟩, ?_⟩⟩
        rw [take_next (x := y * sizR rows i j - pvA rows x j * t) (by unfold rowP; rw [if_neg e, List.getElem?_zipWith, hy1, ht1]), List.map_append]
        rfl
      · obtain ⟨_, rfl⟩ := hq
        rw [List.length_map, rmx.1, ← (rowP_ok tb sb hi hj (show x < n by omega) z).1, List.take_length] at eD
        have s6 := sm5.trans hid_le
        refine ⟨mp, _, _, rfl, rfl, s6 _ _ es1, (by rw [wl, sizeLine_eq]; omega), ?_⟩
        exact fin D H5 _ _ _ hD s6 eD
  obtain ⟨a, b, c, ws, rfl, sm', es, pw⟩ := h
  rw [rl] at pw
  have s1' : Same H H' := s1.trans (sm'.trans hid_le)
  refine ⟨_, rfl, _, rfl, _, rfl, _, _, rfl, rfl, fz sb szb, ?_⟩
  refine ⟨(by show 2 ≤ sizeLine; decide), fun t hz_t => ?_⟩
  generalize hH_ : upd _ t _ = H3
  obtain ⟨s3, e3⟩ := upd_new hH_ hz_t
  clear hH_
  have tabF : TabF H H3 t (pivR rows sc i j) (sc * sizR rows i j) := ⟨mp, e3, ws, s1.free n2, s3 _ _ es, Paired.mapP pw fun _ _ q => q.same (hid_le.trans s3)⟩
  refine ⟨_, rfl, t, sc, pivR rows sc i j, sc * sizR rows i j, H, n, m, k + k + 1, rfl, tabF, s1'.trans s3, piv_ok tb sb hi hj z, s0, lt_big sb (by omega), fun H4 s4 => ?_, fun dv p' H4 s4 t4 => ?_⟩
  · exact q t _ _ H4 ((s1'.trans s3).trans s4) (tabF.same s4) (.inl ⟨rfl, rfl⟩)
  · exact q p' _ _ H4 ((s1'.trans s3).trans s4) t4 (.inr ⟨dv, rfl, rfl⟩)
end
end Pw


set_option Elab.async false
set_option linter.all false
set_option maxRecDepth 100000
set_option maxHeartbeats 4000000
namespace Pw
open PySem L2
seal PE PT PW PA PS PSs PG PGs PI PIf
abbrev RelC (sc : Int) : Int → Fq → Prop := fun x f => Red f ∧ x * f.2 = f.1 * sc
def RelT (rows : List (List Int)) (sc : Int) (frs : List (List Fq)) : Prop := Paired (Paired (RelC sc)) rows frs
theorem paired_of {α β : Type} {F : α → β → Prop} : ∀ {xs : List α} {ys : List β}, xs.length = ys.length → (∀ (i : Nat) a b, xs[i]? = some a → ys[i]? = some b → F a b) → Paired F xs ys
  | [], [], _, _ => .nil
  | x :: xs, y :: ys, h, k => .cons (k 0 x y rfl rfl) (paired_of (by simpa using h) fun i a b ha hb => k (i + 1) a b ha hb)
  | [], _ :: _, h, _ => by simp at h
  | _ :: _, [], h, _ => by simp at h
theorem get_getD {α : Type} {l : List α} {c : Nat} {d : α} (h : c < l.length) : l[c]? = some (l.getD c d) := by rw [List.getD_eq_getElem?_getD, List.getElem?_eq_getElem h]; rfl
theorem rel_mk {x sc : Int} {f : Fq} (h : RelC sc x f) (hs : 0 < sc) : f = mkF x sc := by
  refine red_uniq h.1 (mk_red (by omega)) ?_
  have e := mk_cross (t := x) (b := sc) (by omega)
  have e2 := h.2
  try dsimp only
  generalize mkF x sc = M at e ⊢
  obtain ⟨M1, M2⟩ := M
  obtain ⟨f1, f2⟩ := f
  dsimp only at e e2 ⊢
  refine Int.eq_of_mul_eq_mul_right (show sc ≠ 0 by omega) ?_
  have q1 : f1 * M2 * sc = (f1 * sc) * M2 := by grind
  have q2 : M1 * f2 * sc = (M1 * sc) * f2 := by grind
  rw [q1, q2, e, ← e2]
  grind
theorem gd_mkF {x sc : Int} {k : Nat} (hs : 0 < sc) (hx : x.natAbs < 2 ^ k) (hb : sc.natAbs < 2 ^ k) : Gd k (mkF x sc) := ⟨mk_red (by omega), Nat.lt_of_le_of_lt (ft_abs (by omega)) hx, Nat.lt_of_le_of_lt (fb_abs (by omega)) hb⟩
theorem rel_tf {rows : List (List Int)} {sc : Int} {frs : List (List Fq)} {n m k : Nat} (h : RelT rows sc frs) (tb : Tb n m k rows) (hs : 0 < sc) (hb : sc.natAbs < 2 ^ k) : Tf n m k frs := by
  have hl := Paired.length h
  have hn := tb.hn
  refine ⟨by omega, fun r hr => ?_, fun r hr a ha => ?_, tb.nm⟩
  · obtain ⟨x, hx, rfl⟩ := List.mem_iff_getElem.mp hr
    have := Paired.length (pair_get h x _ _ (List.getElem?_eq_getElem (show x < rows.length by omega)) (List.getElem?_eq_getElem hx))
    rw [← this]
    exact tb.hm _ (List.getElem_mem _)
  · obtain ⟨x, hx, rfl⟩ := List.mem_iff_getElem.mp hr
    have p := pair_get h x _ _ (List.getElem?_eq_getElem (show x < rows.length by omega)) (List.getElem?_eq_getElem hx)
    have pl := Paired.length p
    obtain ⟨c, hc, rfl⟩ := List.mem_iff_getElem.mp ha
    have q := pair_get p c _ _ (List.getElem?_eq_getElem (by omega)) (List.getElem?_eq_getElem hc)
    rw [rel_mk q hs]
    exact gd_mkF hs (tb.hb _ (List.getElem_mem _) _ (List.getElem_mem _)) hb
theorem rel_init {rows : List (List Int)} {sc : Int} (hs : 0 < sc) : RelT rows sc (rows.map (·.map fun x => mkF x sc)) := by
  refine paired_of (by rw [List.length_map]) fun i a b ha hb => ?_
  rw [List.getElem?_map, ha] at hb
  cases hb
  refine paired_of (by rw [List.length_map]) fun j x f hx hf => ?_
  rw [List.getElem?_map, hx] at hf
  cases hf
  exact ⟨mk_red (by omega), (mk_cross (by omega)).symm⟩
theorem rel_at {rows : List (List Int)} {sc : Int} {frs : List (List Fq)} {n m k : Nat} (h : RelT rows sc frs) (tb : Tb n m k rows) {i j : Nat} (hi : i < n) (hj : j < m) : RelC sc (pvA rows i j) (byF frs i j) := by
  have hl := Paired.length h
  have hn := tb.hn
  have p := pair_get h i _ _ (List.getElem?_eq_getElem (show i < rows.length by omega)) (List.getElem?_eq_getElem (show i < frs.length by omega))
  have rm := tb.hm _ (List.getElem_mem (show i < rows.length by omega))
  have pl := Paired.length p
  have q := pair_get p j _ _ (List.getElem?_eq_getElem (by omega)) (List.getElem?_eq_getElem (by omega))
  unfold pvA byF
  rw [show rows.getD i [] = rows[i] by simp [show i < rows.length by omega], show frs.getD i [] = frs[i] by simp [show i < frs.length by omega], show rows[i].getD j 0 = rows[i][j] by simp [show j < rows[i].length by omega], show frs[i].getD j (0, 1) = frs[i][j] by simp [show j < frs[i].length by omega]]
  exact q
theorem head_rel {A P sc f1 f2 b1 b2 : Int} (hs : 0 < sc) (hb : 1 ≤ b2) (hz : b1 ≠ 0) (e1 : A * f2 = f1 * sc) (e2 : P * b2 = b1 * sc) :
    (if P < 0 then -A else A) * (rTi (f1, f2) (backF (b1, b2))).2 = (rTi (f1, f2) (backF (b1, b2))).1 * (if P < 0 then -P else P) := by
  have key : A * f2 * b1 = f1 * b2 * P := by
    rw [e1]
    have : f1 * b2 * P = f1 * (P * b2) := by grind
    rw [this, e2]
    grind
  unfold rTi backF
  dsimp only
  by_cases c : 0 < b1
  · have pp : 0 < P := by
      have : 0 < b1 * sc := Int.mul_pos c hs
      rw [← e2] at this
      exact Int.pos_of_mul_pos_left this (by omega)
    rw [if_pos c, if_neg (by omega), if_neg (by omega)]
    dsimp only
    grind
  · have pp : P < 0 := by
      have h1 : 0 < (-b1) * sc := Int.mul_pos (by omega) hs
      have h2 : (-P) * b2 = (-b1) * sc := by rw [Int.neg_mul, Int.neg_mul, e2]
      rw [← h2] at h1
      have := Int.pos_of_mul_pos_left h1 (by omega)
      omega
    rw [if_neg c, if_pos pp, if_pos pp]
    dsimp only
    grind
theorem row_rel {A P T sc sz f1 f2 g1 g2 h1 h2 : Int} (e1 : A * f2 = f1 * sc) (e2 : P * g2 = g1 * sc) (e3 : T * h2 = h1 * sz) :
    (A * sz - P * T) * (rPl (f1, f2) (rTi (offF (g1, g2)) (h1, h2))).2 = (rPl (f1, f2) (rTi (offF (g1, g2)) (h1, h2))).1 * (sc * sz) := by
  unfold rPl rTi offF
  dsimp only
  have q1 : (A * sz - P * T) * (f2 * (g2 * h2)) = (A * f2) * (sz * g2 * h2) - (P * g2) * (T * h2) * f2 := by grind
  rw [q1, e1, e2, e3]
  grind
theorem mk1_rel {y S : Int} {r : Fq} (hp : 0 < r.2) (e : y * r.2 = r.1 * S) : RelC S y (mk1 r) := by
  refine ⟨mk_red (by omega), ?_⟩
  have c := mk_cross (t := r.1) (b := r.2) (by omega)
  show y * (mkF r.1 r.2).2 = (mkF r.1 r.2).1 * S
  try dsimp only
  generalize mkF r.1 r.2 = M at c ⊢
  obtain ⟨M1, M2⟩ := M
  obtain ⟨r1, r2⟩ := r
  dsimp only at *
  refine Int.eq_of_mul_eq_mul_right (show r2 ≠ 0 by omega) ?_
  have q1 : y * M2 * r2 = (y * r2) * M2 := by grind
  have q2 : M1 * S * r2 = (M1 * r2) * S := by grind
  rw [q1, q2, e, c]
  grind
theorem top_get {n m k : Nat} {rows : List (List Int)} (tb : Tb n m k rows) {i j c : Nat} (hi : i < n) (hc : c < m) : (topR rows i j)[c]? = some (if pvA rows i j < 0 then -pvA rows i c else pvA rows i c) := by
  have rm := (tb.row hi).1
  have e : (rows.getD i [])[c]? = some (pvA rows i c) := get_getD (by omega)
  unfold topR
  split
  · rw [List.getElem?_map, e]; rfl
  · exact e
theorem fr_get {n m k : Nat} {frs : List (List Fq)} (tf : Tf n m k frs) {i c : Nat} (hi : i < n) (hc : c < m) : (frs.getD i [])[c]? = some (byF frs i c) := by
  have rm := (tf.row hi).1
  exact get_getD (by omega)
theorem rel_raw {rows : List (List Int)} {sc : Int} {frs : List (List Fq)} {n m k : Nat} (h : RelT rows sc frs) (tb : Tb n m k rows) (hs : 0 < sc) (hb : sc.natAbs < 2 ^ k) {i j : Nat} (hi : i < n) (hj : j < m) (z : (byF frs i j).1 ≠ 0) : RelT (pivR rows sc i j) (sc * sizR rows i j) (dueV frs i j) := by
  have tf := rel_tf h tb hs hb
  have hn := tb.hn
  have hfn := tf.hn
  have pz : pvA rows i j ≠ 0 := fun e => by
    have := (rel_at h tb hi hj).2
    rw [e, Int.zero_mul] at this
    rcases Int.mul_eq_zero.mp this.symm with q | q
    · exact z q
    · omega
  have hd : ∀ c, c < m → ∃ hh, (headV frs i j)[c]? = some hh ∧ 0 < hh.2 ∧ (if pvA rows i j < 0 then -pvA rows i c else pvA rows i c) * hh.2 = hh.1 * sizR rows i j := by
    intro c hc
    refine ⟨rTi (byF frs i c) (backF (byF frs i j)), by unfold headV; rw [List.getElem?_map, fr_get tf hi hc]; rfl, ?_, ?_⟩
    · have g := tf.by hi hc
      exact Int.mul_pos (by have := g.1.1; omega) (back_ok (tf.by hi hj) z).2
    · have r1 := rel_at h tb hi hc
      have r2 := rel_at h tb hi hj
      unfold sizR
      exact head_rel hs r2.1.1 z r1.2 r2.2
  refine paired_of (by unfold pivR dueV; rw [List.length_map, List.length_map, List.length_range, raw_len]; omega) fun x a b ha hb' => ?_
  have hx : x < rows.length := by
    have := (List.getElem?_eq_some_iff.mp ha).1
    unfold pivR at this
    rw [List.length_map, List.length_range] at this
    exact this
  have hxn : x < n := by omega
  unfold pivR at ha
  rw [List.getElem?_map, List.getElem?_range hx] at ha
  cases ha
  unfold dueV at hb'
  rw [List.getElem?_map, raw_at (show x < frs.length by omega)] at hb'
  cases hb'
  have rl := (rowP_ok tb hb hi hj hxn pz).1
  have vl : (if x = i then headV frs i j else rowV frs i j x).length = m := by
    split
    · exact (head_ok tf hi hj z).1
    · exact (row_ok tf hi hj hxn z).1
  refine paired_of (by rw [List.length_map, rl, vl]) fun c y f hy hf => ?_
  have hc : c < m := by rw [← rl]; exact (List.getElem?_eq_some_iff.mp hy).1
  obtain ⟨hh, eh, hp, er⟩ := hd c hc
  rw [List.getElem?_map] at hf
  unfold rowP at hy
  by_cases e : x = i
  · rw [if_pos e] at hy hf
    rw [List.getElem?_map, top_get tb hi hc] at hy
    cases hy
    rw [eh] at hf
    cases hf
    refine mk1_rel hp ?_
    have q1 : (if pvA rows i j < 0 then -pvA rows i c else pvA rows i c) * sc * hh.2 = ((if pvA rows i j < 0 then -pvA rows i c else pvA rows i c) * hh.2) * sc := by grind
    rw [q1, er]
    grind
  · rw [if_neg e] at hy hf
    have eA : (rows.getD x [])[c]? = some (pvA rows x c) := get_getD (by have rm := (tb.row hxn).1; omega)
    rw [List.getElem?_zipWith, eA, top_get tb hi hc] at hy
    cases hy
    unfold rowV at hf
    rw [List.getElem?_zipWith, fr_get tf hxn hc, eh] at hf
    cases hf
    have g := tf.by hxn hc
    have o := off_ok (tf.by hxn hj)
    refine mk1_rel (Int.mul_pos (by have := g.1.1; omega) (Int.mul_pos o.2 hp)) ?_
    exact row_rel (rel_at h tb hxn hc).2 (rel_at h tb hxn hj).2 er
theorem rel_piv {rows : List (List Int)} {sc : Int} {frs : List (List Fq)} {n m k : Nat} (h : RelT rows sc frs) (tb : Tb n m k rows) (hs : 0 < sc) (hb : sc.natAbs < 2 ^ k) {i j : Nat} (hi : i < n) (hj : j < m) (z : (byF frs i j).1 ≠ 0) {rows' : List (List Int)} {sc' : Int} (pv' : PivOk rows sc i j rows' sc') :
    RelT rows' sc' (dueV frs i j) ∧ 0 < sc' ∧ Tb n m (k + k + 1) rows' ∧ sc'.natAbs < 2 ^ (k + k + 1) := by
  have pz : pvA rows i j ≠ 0 := fun e => by
    have := (rel_at h tb hi hj).2
    rw [e, Int.zero_mul] at this
    rcases Int.mul_eq_zero.mp this.symm with q | q
    · exact z q
    · omega
  have rr := rel_raw h tb hs hb hi hj z
  have tp := piv_ok tb hb hi hj pz
  obtain ⟨z0, zb⟩ := siz_ok tb hi hj pz
  rcases pv' with ⟨rfl, rfl⟩ | ⟨dv, rfl, rfl⟩
  · exact ⟨rr, Int.mul_pos hs z0, tp, pow_up (mul_lt hb zb) (Nat.le_succ _)⟩
  have es : (sc * sizR rows i j).fdiv sc = sizR rows i j := Int.mul_fdiv_cancel_left _ (by omega)
  rw [es]
  refine ⟨?_, z0, ⟨?_, fun r hr => ?_, fun r hr y hy => ?_, tp.nm⟩, pow_up zb (by omega)⟩
  · refine paired_of (by unfold divR; rw [List.length_map]; exact Paired.length rr) fun x a b ha hb' => ?_
    unfold divR at ha
    rw [List.getElem?_map] at ha
    obtain ⟨r, hr, rfl⟩ := Option.map_eq_some_iff.mp ha
    have p := pair_get rr x _ _ hr hb'
    refine paired_of (by rw [List.length_map]; exact Paired.length p) fun c y f hy hf => ?_
    rw [List.getElem?_map] at hy
    obtain ⟨w, hw, rfl⟩ := Option.map_eq_some_iff.mp hy
    have q := pair_get p c _ _ hw hf
    refine ⟨q.1, ?_⟩
    have dz := dv r (List.mem_of_getElem? hr) w (List.mem_of_getElem? hw)
    have ew : w = w.fdiv sc * sc := by
      have := Int.fmod_def w sc
      rw [dz] at this
      have c := Int.mul_comm sc (w.fdiv sc)
      omega
    have q2 := q.2
    try dsimp only
    generalize w.fdiv sc = v at ew ⊢
    subst ew
    refine Int.eq_of_mul_eq_mul_right (show sc ≠ 0 by omega) ?_
    have t1 : v * f.2 * sc = v * sc * f.2 := by grind
    rw [t1, q2]
    grind
  · unfold divR; rw [List.length_map]; exact tp.hn
  · obtain ⟨r', hr', rfl⟩ := List.mem_map.mp hr
    rw [List.length_map]; exact tp.hm r' hr'
  · obtain ⟨r', hr', rfl⟩ := List.mem_map.mp hr
    obtain ⟨w, hw, rfl⟩ := List.mem_map.mp hy
    have dz := dv r' hr' w hw
    have hd : sc ∣ w := ⟨w.fdiv sc, by have := Int.fmod_def w sc; rw [dz] at this; omega⟩
    exact Nat.lt_of_le_of_lt (fdiv_abs hs hd) (tp.hb r' hr' w hw)
section
variable {P : Program} {w : World} {K : PySem.W.Frag} {mg : Str → Option Value} {base : Heap} {f : Addr} {fd : FuncData}
def spGood (K : PySem.W.Frag) : Sp := fun vs H Q _ => ∃ (p l : Addr) (rows : List (List Int)) (sc : Int) (frs : List (List Fq)) (n m k : Nat), vs = [.ref p, .ref l] ∧ TabF e0 H p rows sc ∧ FrF K e0 H l frs ∧ RelT rows sc frs ∧ Tb n m k rows ∧ 0 < sc ∧ sc.natAbs < 2 ^ k ∧ k ≤ 300 ∧ ∀ H', Same H H' → Q (.bl true) H'
theorem sc_good : FnScope ["_law_found", "_law_due_here", "_law_at_here", "_law_row", "_law_column", "_law_number_here"] ["_law_found", "_law_due_here"] (defScope s_good) := ⟨rfl, rfl, rfl, by decide +kernel, rfl, by decide +kernel, by decide +kernel⟩
theorem lk_good__law_found : (defScope s_good).names.lookup ("_law_found" : Str) = some .local := by decide +kernel
theorem lk_good__law_due_here : (defScope s_good).names.lookup ("_law_due_here" : Str) = some .local := by decide +kernel
theorem lk_good__law_at_here : (defScope s_good).names.lookup ("_law_at_here" : Str) = some .local := by decide +kernel
theorem lk_good__law_row : (defScope s_good).names.lookup ("_law_row" : Str) = some .local := by decide +kernel
theorem lk_good__law_column : (defScope s_good).names.lookup ("_law_column" : Str) = some .local := by decide +kernel
theorem lk_good__law_number_here : (defScope s_good).names.lookup ("_law_number_here" : Str) = some .local := by decide +kernel
theorem lk_good__law_order : (defScope s_good).names.lookup ("_law_order" : Str) = some .globalImplicit := by decide +kernel
theorem lk_good__law_same : (defScope s_good).names.lookup ("_law_same" : Str) = some .globalImplicit := by decide +kernel
theorem lk_good_bool : (defScope s_good).names.lookup ("bool" : Str) = some .globalImplicit := by decide +kernel
theorem lk_good_enumerate : (defScope s_good).names.lookup ("enumerate" : Str) = some .globalImplicit := by decide +kernel
theorem lk_good_int : (defScope s_good).names.lookup ("int" : Str) = some .globalImplicit := by decide +kernel
theorem lk_good_isinstance : (defScope s_good).names.lookup ("isinstance" : Str) = some .globalImplicit := by decide +kernel
theorem lk_good_len : (defScope s_good).names.lookup ("len" : Str) = some .globalImplicit := by decide +kernel
theorem lk_good_list : (defScope s_good).names.lookup ("list" : Str) = some .globalImplicit := by decide +kernel
theorem lk_good_tuple : (defScope s_good).names.lookup ("tuple" : Str) = some .globalImplicit := by decide +kernel
theorem lk_good_value : (defScope s_good).names.lookup ("value" : Str) = some .globalImplicit := by decide +kernel
theorem ok_good {ff fg CB : Addr} {df dg : FuncData} {dV : Value} {ds : List Value} {fDLo fDIF fDOr fDSa fDVa : Addr} {dDLo dDIF dDOr dDSa dDVa : FuncData} (F : Fun K "_law_good" "_law_good" s_good f fd) (B : Blt mg) (D : DefD K mg "fraction" s_fraction dV ff df ["top", "bottom"] ds) (G : DefAt K mg "greatest_divisor" s_greatest_divisor fg dg ["one", "other"]) (X : BadF K mg CB) (DLo : DefAt K mg "_law_lowest" s_lowest fDLo dDLo ["_law_top", "_law_bottom"]) (DIF : DefAt K mg "_law_is_fraction" s_isf fDIF dDIF ["_law_found"]) (DOr : DefAt K mg "_law_order" s_order fDOr dDOr ["_law_one", "_law_other"]) (DSa : DefAt K mg "_law_same" s_same fDSa dDSa ["_law_found", "_law_due_here"]) (DVa : DefAt K mg "value" s_value fDVa dDVa ["tableau", "at", "column"]) : FnOk P w K mg base CX0 5 f fd ["_law_found", "_law_due_here"] (spGood K) := by
  have OO : FnOk P w K mg base CX0 1 fDOr dDOr ["_law_one", "_law_other"] (spOrd K) := ok_order DOr.F
  have OS : FnOk P w K mg base CX0 3 fDSa dDSa ["_law_found", "_law_due_here"] (spSa K) := ok_same DSa.F B DLo DIF DOr
  have OV : FnOk P w K mg base CX0 4 fDVa dDVa ["tableau", "at", "column"] (fun vs H Q _ => spVal K vs H Q E0) := (ok_value DVa.F B D G X).to0
  refine F.ok sc_good (fun vs H Q E h => ?_) (fun cdv A outer s H vs Q E hr h => ?_)
  · obtain ⟨_, _, _, _, _, _, _, _, rfl, _⟩ := h
    rfl
  obtain ⟨p, dl, rows, sc, frs, n, m, k, rfl, ⟨l, hp, rv, _, hl, pr⟩, ⟨dv, _, hd, pd⟩, rel, tb, s0, sb, k3, q⟩ := h
  have nd := sc_good.nd
  have hr1 : Room 1 _ := hr.mono (by decide)
  have hr3 : Room 3 _ := hr.mono (by decide)
  have rl : rv.length = rows.length := Paired.length pr
  have dl' : dv.length = frs.length := Paired.length pd
  have rf : rows.length = frs.length := Paired.length rel
  have hn := tb.hn
  obtain ⟨_, n4, _, m5⟩ := tb.nm
  have tf := rel_tf rel tb s0 sb
  refine ⟨_, pss_cons (ps_if (PW.pt (pw_or (pt_not (pt_val (pe_callB (call_isiTup (K := K) rfl) lk_good_isinstance B.isinstance bt_isinstance (pa_Name (pv 0 rfl (Or.inl lk_good__law_found)) (pa_Name (pe_bltn (v := .ty "tuple") lk_good_tuple B.tuple bt_tuple rfl) pa_nil))))) (pw_or (pt_cmpR op_ne (pe_callB call_len_seq lk_good_len B.len bt_len (pa_Name (pv 0 rfl (Or.inl lk_good__law_found)) pa_nil)) (pe_int) (nomark _)) (pw_or1 (pt_not (pt_val (pe_callB (call_isi (K := K) rfl) lk_good_isinstance B.isinstance bt_isinstance (pa_Subscript (pe_ix ix_tup (pv 0 rfl (Or.inl lk_good__law_found)) (pe_int) (fun _ _ => rfl)) (pa_Name (pe_bltn (v := .ty "list") lk_good_list B.list bt_list rfl) pa_nil))))))))) (pss_one (ps_ret (pe_bl))) (pss_nil))
    (pss_cons (ps_if (PW.pt (pw_or (pt_not (pt_val (pe_callB (call_isi (K := K) rfl) lk_good_isinstance B.isinstance bt_isinstance (pa_Subscript (pe_ix ix_tup (pv 0 rfl (Or.inl lk_good__law_found)) (pe_int) (fun _ _ => rfl)) (pa_Name (pe_bltn (v := .ty "int") lk_good_int B.int bt_int rfl) pa_nil))))) (pw_or (pt_val (pe_callB (call_isi (K := K) rfl) lk_good_isinstance B.isinstance bt_isinstance (pa_Subscript (pe_ix ix_tup (pv 0 rfl (Or.inl lk_good__law_found)) (pe_int) (fun _ _ => rfl)) (pa_Name (pe_bltn (v := .ty "bool") lk_good_bool B.bool bt_bool rfl) pa_nil)))) (pw_or (pt_cmpR op_lt (pe_ix ix_tup (pv 0 rfl (Or.inl lk_good__law_found)) (pe_int) (fun _ _ => rfl)) (pe_int) (nomark _)) (pw_or1 (pt_cmpR op_ne (pe_callB call_len_seq lk_good_len B.len bt_len (pa_Subscript (pe_ix ix_tup (pv 0 rfl (Or.inl lk_good__law_found)) (pe_int) (fun _ _ => rfl)) pa_nil)) (pe_callB call_len_seq lk_good_len B.len bt_len (pa_Name (pv 1 rfl (Or.inl lk_good__law_due_here)) pa_nil)) (nomark _))))))) (pss_one (ps_ret (pe_bl))) (pss_nil))
    (pss_cons (ps_for PassesOwn.never rfl (pi_enum lk_good_enumerate B.enumerate (pa_Subscript (pe_ix ix_tup (pv 0 rfl (Or.inl lk_good__law_found)) (pe_int) (fun _ _ => rfl)) pa_nil)) (pg_tup rfl (pgs_cons (pg_name (i := 2) nd rfl (Or.inl lk_good__law_at_here)) (pgs_cons (pg_name (i := 3) nd rfl (Or.inl lk_good__law_row)) (pgs_nil)))) (pss_cons (ps_if (PW.pt (pw_or (pt_not (pt_val (pe_callB (call_isi (K := K) rfl) lk_good_isinstance B.isinstance bt_isinstance (pa_Name (pv 3 rfl (Or.inl lk_good__law_row)) (pa_Name (pe_bltn (v := .ty "list") lk_good_list B.list bt_list rfl) pa_nil))))) (pw_or1 (pt_cmpR op_ne (pe_callB call_len_seq lk_good_len B.len bt_len (pa_Name (pv 3 rfl (Or.inl lk_good__law_row)) pa_nil)) (pe_callB call_len_seq lk_good_len B.len bt_len (pa_Subscript (pe_ix ix_list (pv 1 rfl (Or.inl lk_good__law_due_here)) (pv 2 rfl (Or.inl lk_good__law_at_here)) (fun _ _ => rfl)) pa_nil)) (nomark _))))) (pss_one (ps_ret (pe_bl))) (pss_nil))
    (pss_one (ps_for PassesOwn.never rfl (pi_enum lk_good_enumerate B.enumerate (pa_Name (pv 3 rfl (Or.inl lk_good__law_row)) pa_nil)) (pg_tup rfl (pgs_cons (pg_name (i := 4) nd rfl (Or.inl lk_good__law_column)) (pgs_cons (pg_name (i := 5) nd rfl (Or.inl lk_good__law_number_here)) (pgs_nil)))) (pss_cons (ps_if (PW.pt (pw_or (pt_not (pt_val (pe_callB (call_isi (K := K) rfl) lk_good_isinstance B.isinstance bt_isinstance (pa_Name (pv 5 rfl (Or.inl lk_good__law_number_here)) (pa_Name (pe_bltn (v := .ty "int") lk_good_int B.int bt_int rfl) pa_nil))))) (pw_or1 (pt_val (pe_callB (call_isi (K := K) rfl) lk_good_isinstance B.isinstance bt_isinstance (pa_Name (pv 5 rfl (Or.inl lk_good__law_number_here)) (pa_Name (pe_bltn (v := .ty "bool") lk_good_bool B.bool bt_bool rfl) pa_nil))))))) (pss_one (ps_ret (pe_bl))) (pss_nil))
    (pss_cons (ps_if (pt_cmpR op_ne (pe_call OO hr1 lk_good__law_order DOr.m DOr.F.kp DOr.b .nil pass0 (pa_Tuple (pe_tup (pa_Name (pv 5 rfl (Or.inl lk_good__law_number_here)) (pa_Subscript (pe_ix ix_tup (pv 0 rfl (Or.inl lk_good__law_found)) (pe_int) (fun _ _ => rfl)) pa_nil))) (pa_Subscript (pe_ix ix_list (pe_ix ix_list (pv 1 rfl (Or.inl lk_good__law_due_here)) (pv 2 rfl (Or.inl lk_good__law_at_here)) (fun _ _ => rfl)) (pv 4 rfl (Or.inl lk_good__law_column)) (fun _ _ => rfl)) pa_nil))) (pe_int) (nomark _)) (pss_one (ps_ret (pe_bl))) (pss_nil))
    (pss_one (ps_if (pt_not (pt_val (pe_call OS hr3 lk_good__law_same DSa.m DSa.F.kp DSa.b .nil pass0 (pa_Call (pe_call OV hr lk_good_value DVa.m DVa.F.kp DVa.b .nil pass0 (pa_Name (pv 0 rfl (Or.inl lk_good__law_found)) (pa_Name (pv 2 rfl (Or.inl lk_good__law_at_here)) (pa_Name (pv 4 rfl (Or.inl lk_good__law_column)) pa_nil)))) (pa_Subscript (pe_ix ix_list (pe_ix ix_list (pv 1 rfl (Or.inl lk_good__law_due_here)) (pv 2 rfl (Or.inl lk_good__law_at_here)) (fun _ _ => rfl)) (pv 4 rfl (Or.inl lk_good__law_column)) (fun _ _ => rfl)) pa_nil))))) (pss_one (ps_ret (pe_bl))) (pss_nil)))))))))
    (pss_one (ps_ret (pe_bl))))), ?_⟩
  dsimp only [tSeq]
  refine ifS_by (b := (false || (false || false))) (Tells.or (fun R hR => ⟨_, rfl, p, _, rfl, SqT.of hp, _, rfl, hR _ Same.refl'⟩) fun _ H1 s1 => Tells.or (fun R hR => ⟨_, rfl, p, _, rfl, .inr (SqT.of (s1 _ _ hp)), rfl, _, rfl, hR _ Same.refl'⟩) fun _ H2 s2 R hR =>
    ⟨_, rfl, p, _, _, _, rfl, rfl, SqT.of (s2 _ _ (s1 _ _ hp)), rfl, .ref l, .ty "list", .type "list", true, rfl, rfl, .of (.lst (s2 _ _ (s1 _ _ hl))), rfl, true, rfl, hR _ Same.refl'⟩) (fun z => absurd z (by decide)) (fun _ H1 s1 => ?_)
  dsimp only [tSeq, tNext]
  refine ifS_by (b := (false || (false || (false || false)))) (Tells.or (fun R hR => ⟨_, rfl, p, _, _, _, rfl, rfl, SqT.of (s1 _ _ hp), rfl, .int sc, .ty "int", .type "int", true, rfl, rfl, .of (.int sc), rfl, true, rfl, hR _ Same.refl'⟩) fun _ H2 s2 => Tells.or (fun R hR => ⟨_, rfl, p, _, _, _, rfl, rfl, SqT.of (s2 _ _ (s1 _ _ hp)), rfl, .int sc, .ty "bool", .type "int", false, rfl, rfl, .of (.int sc), rfl, false, rfl, hR _ Same.refl'⟩) fun _ H3 s3 => Tells.or (fun R hR => ?_) fun _ H4 s4 R hR => ?_) (fun z => absurd z (by decide)) (fun _ H2 s2 => ?_)
  · refine ⟨_, rfl, p, _, _, _, rfl, rfl, SqT.of (s3 _ _ (s2 _ _ (s1 _ _ hp))), rfl, _, _, rfl, rfl, _, rfl, ?_⟩
    rw [decide_eq_false (show ¬ sc < 1 by omega)]
    exact hR _ Same.refl'
  · have s14 := s1.trans (s2.trans (s3.trans s4))
    refine ⟨_, rfl, p, _, _, _, rfl, rfl, SqT.of (s14 _ _ hp), rfl, l, _, rfl, .inl (SqL.of (s14 _ _ hl)), _, rfl, dl, _, rfl, .inl (SqL.of (s14 _ _ hd)), rfl, _, rfl, ?_⟩
    rw [neN (show (rv.length : Int) = dv.length by omega)]
    exact hR _ Same.refl'
  have s12 := s1.trans s2
  refine ⟨_, rfl, p, _, _, _, rfl, rfl, SqT.of (s12 _ _ hp), rfl, l, rfl, ⟨_, SqL.of (s12 _ _ hl)⟩, ?_⟩
  refine for_enum (xs := rv) (fun i σ H' => ∃ (a b c d : Option V), σ = [some (.ref p), some (.ref dl), a, b, c, d] ∧ Same H H')
    ⟨none, none, none, none, rfl, s12⟩ (fun i σ H' _ h => ?_) (fun i x' σ H' hx h pt hpt => ?_) (fun σ H' h => ?_)
  · obtain ⟨_, _, _, _, _, sm⟩ := h
    exact SqL.of (sm _ _ hl)
  · obtain ⟨a, b, c, d, rfl, sm⟩ := h
    have hi : i < rows.length := by rw [← rl]; exact (List.getElem?_eq_some_iff.mp hx).1
    have st := sm.trans (same_new hpt (.tup [.int i, x']))
    obtain ⟨r, rfl, _, hr'⟩ := pair_get pr i _ _ hx (List.getElem?_eq_getElem hi)
    obtain ⟨dr, fv, ed, _, hdr, pf⟩ := fr_at pd (show i < frs.length by omega)
    have rm := (tb.row (show i < n by omega)).1
    have fm := (tf.row (show i < n by omega)).1
    have gi : rows.getD i [] = rows[i] := by simp [hi]
    rw [← gi] at hr'
    have fl : fv.length = m := by rw [Paired.length pf]; exact fm
    refine ⟨pt, _, rfl, SqT.of upd_same, rfl, _, _, rfl, _, _, rfl, rfl, ?_⟩
    generalize upd H' pt (.tup [.int i, .ref r]) = H3 at st ⊢ -- nd
    dsimp only [tSeq]
    refine ifS_by (b := (false || false)) (Tells.or (fun R hR => ⟨_, rfl, .ref r, .ty "list", .type "list", true, rfl, rfl, .of (.lst (st _ _ hr')), rfl, true, rfl, hR _ Same.refl'⟩) fun _ H4 s4 R hR => ?_) (fun z => absurd z (by decide)) (fun _ H4 s4 => ?_)
    · have t4 := st.trans s4
      refine ⟨_, rfl, r, _, rfl, .inl (SqL.of (t4 _ _ hr')), _, rfl, _, rfl, dl, _, _, _, rfl, rfl, SqL.of (t4 _ _ hd), ed, dr, _, rfl, .inl (SqL.of (t4 _ _ hdr)), rfl, _, rfl, ?_⟩
      rw [neN (by rw [List.length_map, rm, fl])]
      exact hR _ Same.refl'
    have t4 := st.trans s4
    refine ⟨_, rfl, r, rfl, ⟨_, SqL.of (t4 _ _ hr')⟩, ?_⟩
    refine for_enum (xs := (rows.getD i []).map V.int) (fun j σ H' => ∃ (c d : Option V), σ = [some (.ref p), some (.ref dl), some (.int i), some (.ref r), c, d] ∧ Same H H')
      ⟨c, d, rfl, t4⟩ (fun j σ H' _ h => ?_) (fun j y σ H' hy h pt hpt => ?_) (fun σ H' h => ?_)
    · obtain ⟨_, _, _, sm⟩ := h
      exact SqL.of (sm _ _ hr')
    · obtain ⟨c, d, rfl, sm⟩ := h
      have hj : j < (rows.getD i []).length := by have := (List.getElem?_eq_some_iff.mp hy).1; rw [List.length_map] at this; exact this
      have st := sm.trans (same_new hpt (.tup [.int j, y]))
      have ey : y = .int (pvA rows i j) := by
        rw [List.getElem?_map, get_getD (d := 0) hj] at hy
        exact (Option.some.inj hy).symm
      subst ey
      obtain ⟨tp, et, htp⟩ := f_at pf (show j < (frs.getD i []).length by omega)
      obtain ⟨rd, rc⟩ := rel_at rel tb (show i < n by omega) (show j < m by omega)
      have gf := tf.by (show i < n by omega) (show j < m by omega)
      refine ⟨pt, _, rfl, SqT.of upd_same, rfl, _, _, rfl, _, _, rfl, rfl, ?_⟩
      generalize upd H' pt (.tup [.int j, .int (pvA rows i j)]) = H5 at st ⊢ -- nd
      dsimp only [tSeq]
      refine ifS_by (b := (false || false)) (Tells.or (fun R hR => ⟨_, rfl, .int (pvA rows i j), .ty "int", .type "int", true, rfl, rfl, .of (.int _), rfl, true, rfl, hR _ Same.refl'⟩) fun _ H6 s6 R hR => ⟨_, rfl, .int (pvA rows i j), .ty "bool", .type "int", false, rfl, rfl, .of (.int _), rfl, false, rfl, hR _ Same.refl'⟩) (fun z => absurd z (by decide)) (fun _ H6 s6 => ?_)
      have t6 := st.trans s6
      dsimp only [tSeq, tNext]
      refine ifS_by (b := false) (fun R hR => ?_) (fun z => absurd z (by decide)) (fun _ H7 s7 => ?_)
      · refine ⟨_, rfl, _, rfl, p, _, _, _, rfl, rfl, SqT.of (t6 _ _ hp), rfl, ?_⟩
        refine ⟨(by show 2 ≤ sizeLine; decide), fun t hz_t => ?_⟩
        generalize hH_ : upd _ t _ = H7
        obtain ⟨s7, e7⟩ := upd_new hH_ hz_t
        clear hH_
        have t7 := t6.trans s7
        refine ⟨_, rfl, _, rfl, dl, _, _, _, rfl, rfl, SqL.of (t7 _ _ hd), ed, _, rfl, dr, _, _, _, rfl, rfl, SqL.of (t7 _ _ hdr), et, ?_⟩
        refine ⟨_, _, (pvA rows i j, sc), byF frs i j, k, k, rfl, ⟨t, rfl, SqT.of e7⟩, ⟨tp, rfl, t7.seqT htp⟩, ⟨tb.at_ (by omega) (by omega), sb⟩, gf.2, by omega, rfl, _, rfl, ?_⟩
        rw [neN (show pvA rows i j * (byF frs i j).2 - (byF frs i j).1 * sc = 0 by rw [rc]; omega)]
        exact hR _ s7
      have t7 := t6.trans s7
      dsimp only [tSeq, tNext]
      refine ifS_by (b := false) (fun R hR => ?_) (fun z => absurd z (by decide)) (fun _ H8 s8 => ?_)
      · refine ⟨_, rfl, _, rfl, _, rfl, p, rows, sc, i, j, rfl, ⟨l, t7 _ _ hp, rv, rfl, t7 _ _ hl, Paired.mapP pr fun _ _ q => q.same t7⟩, hi, hj, s0, lt_big sb (by omega), fun r8 H8 s8 f8 => ?_⟩
        have t8 := t7.trans s8
        refine ⟨_, rfl, _, rfl, dl, _, _, _, rfl, rfl, SqL.of (t8 _ _ hd), ed, _, rfl, dr, _, _, _, rfl, rfl, SqL.of (t8 _ _ hdr), et, ?_⟩
        have em := rel_mk ⟨rd, rc⟩ s0
        refine ⟨r8, _, _, byF frs i j, rfl, f8, ⟨tp, rfl, t8.seqT htp⟩, ?_, gf.2.mono (by omega), ?_, fun H9 s9 => ⟨true, rfl, hR _ (s8.trans s9)⟩⟩
        · show Gd 2000 (mkF (pvA rows i j) sc)
          rw [← em]; exact gf.mono (by omega)
        · show (mkF (pvA rows i j) sc).1 * _ = _ * (mkF (pvA rows i j) sc).2
          rw [← em]
      exact ⟨_, _, rfl, t7.trans s8⟩
    · obtain ⟨c, d, rfl, sm⟩ := h
      exact ⟨_, _, _, _, rfl, sm⟩
  · obtain ⟨a, b, c, d, rfl, sm⟩ := h
    exact q _ sm
end
end Pw


set_option Elab.async false
set_option linter.all false
set_option maxRecDepth 100000
set_option maxHeartbeats 4000000
namespace Pw
open PySem L2
seal PE PT PW PA PS PSs PG PGs PI PIf
section
variable {K : PySem.W.Frag} {B B' H H' : Hp} {rows : List (List Int)} {l p q D : Addr} {sc : Int} {frs : List (List Fq)} {o : HO} {ys : List V}
theorem RowsF.hid (eB : B D = some o) (h : RowsF B H l rows) : RowsF B (L2.hid D H) l rows := let ⟨rv, a, b, c⟩ := h; ⟨rv, a, by rw [hid_ne (ne_base a eB)]; exact b, Paired.mapP c fun _ _ ⟨x, a', b', c'⟩ => ⟨x, a', b', by rw [hid_ne (ne_base b' eB)]; exact c'⟩⟩
theorem TabF.hid (eB : B D = some o) (e : H D = some (.lst ys)) (h : TabF B H p rows sc) : TabF B (L2.hid D H) p rows sc := let ⟨l, a, b⟩ := h; ⟨l, tup_hid e a, b.hid eB⟩
theorem FrF.hid (eB : B D = some o) (e : H D = some (.lst ys)) (h : FrF K B H l frs) : FrF K B (L2.hid D H) l frs := let ⟨rv, a, b, c⟩ := h; ⟨rv, a, by rw [hid_ne (ne_base a eB)]; exact b, Paired.mapP c fun _ _ ⟨x, fv, a', b', c', d'⟩ => ⟨x, fv, a', b', by rw [hid_ne (ne_base b' eB)]; exact c', Paired.mapP d' fun _ _ q => q.hid e⟩⟩
theorem alike_ints (n : Nat) : ∀ xs : List Int, Paired (Alike K H n) (xs.map V.int) (xs.map V.int)
  | [] => .nil
  | x :: xs => .cons (Alike.int x) (alike_ints n xs)
theorem alike_rows {n : Nat} {rv rv' : List V} (h : Paired (RowAt B H) rv rows) (h' : Paired (RowAt B' H) rv' rows) : Paired (Alike K H (n + 1)) rv rv' := by
  induction h generalizing rv' with
  | nil => cases h'; exact .nil
  | cons r t ih =>
    cases h' with
    | cons r' t' =>
      obtain ⟨x, rfl, _, hx⟩ := r
      obtain ⟨y, rfl, _, hy⟩ := r'
      exact .cons (Alike.lst (SqL.of hx) (SqL.of hy) (alike_ints n _)) (ih t')
theorem alike_tab (h : TabF B H p rows sc) (h' : TabF B' H q rows sc) : ∃ xs ys, SqT K H p xs ∧ SqT K H q ys ∧ Paired (Alike K H 40) xs ys := by
  obtain ⟨l, hp, rv, _, hl, pr⟩ := h
  obtain ⟨l', hq, rv', _, hl', pr'⟩ := h'
  exact ⟨_, _, SqT.of hp, SqT.of hq, .cons (Alike.lst (SqL.of hl) (SqL.of hl') (alike_rows (n := 38) pr pr')) (.cons (Alike.int sc) .nil)⟩
def PairG (G : Hp) (v : V) : Prop := ∃ t p q rows sc, v = .ref t ∧ G t = some (.tup [.ref p, .ref q]) ∧ TabF e0 G p rows sc ∧ TabF e0 G q rows sc
theorem PairG.same {G G' : Hp} {v : V} (e : Same G G') (h : PairG G v) : PairG G' v := let ⟨t, p, q, rows, sc, a, b, c, d⟩ := h; ⟨t, p, q, rows, sc, a, e _ _ b, c.same e, d.same e⟩
end
structure LInv (K : PySem.W.Frag) (G : Hp) (a : Addr) (ns : List Int) (tp fp : Addr) (rows : List (List Int)) (sc : Int) (frs : List (List Fq)) (n m k : Nat) : Prop where
  hS : SqL K G a (ns.map V.int)
  tab : TabF e0 G tp rows sc
  fr : FrF K e0 G fp frs
  rel : RelT rows sc frs
  tb : Tb n m k rows
  s0 : 0 < sc
  sb : sc.natAbs < 2 ^ k
theorem LInv.same {K : PySem.W.Frag} {G G' : Hp} {a : Addr} {ns : List Int} {tp fp : Addr} {rows : List (List Int)} {sc : Int} {frs : List (List Fq)} {n m k : Nat} (e : Same G G') (h : LInv K G a ns tp fp rows sc frs n m k) : LInv K G' a ns tp fp rows sc frs n m k := ⟨e.seq h.hS, h.tab.same e, h.fr.same e, h.rel, h.tb, h.s0, h.sb⟩
section
variable {P : Program} {w : World} {K : PySem.W.Frag} {mg : Str → Option Value} {base : Heap} {f : Addr} {fd : FuncData}
def spLaw (K : PySem.W.Frag) : Sp := fun vs H Q _ => ∃ (a : Addr) (ns : List Int), vs = [.ref a] ∧ SqL K H a (ns.map V.int) ∧ ns.length ≤ 63 ∧ (∀ i ∈ ns, Few i) ∧ ∀ H', Q (.bl true) H'
theorem sc_law : FnScope ["_law_script", "_law_tableau", "_law_table_here", "_law_held", "_law_turn", "_law_place_here", "_law_handed", "_law_due_here", "_law_found", "_law_again"] ["_law_script"] (defScope s_law) := ⟨rfl, rfl, rfl, by decide +kernel, rfl, by decide +kernel, by decide +kernel⟩
theorem lk_law__law_script : (defScope s_law).names.lookup ("_law_script" : Str) = some .local := by decide +kernel
theorem lk_law__law_tableau : (defScope s_law).names.lookup ("_law_tableau" : Str) = some .cell := by decide +kernel
theorem lk_law__law_table_here : (defScope s_law).names.lookup ("_law_table_here" : Str) = some .local := by decide +kernel
theorem lk_law__law_held : (defScope s_law).names.lookup ("_law_held" : Str) = some .local := by decide +kernel
theorem lk_law__law_turn : (defScope s_law).names.lookup ("_law_turn" : Str) = some .local := by decide +kernel
theorem lk_law__law_place_here : (defScope s_law).names.lookup ("_law_place_here" : Str) = some .local := by decide +kernel
theorem lk_law__law_handed : (defScope s_law).names.lookup ("_law_handed" : Str) = some .local := by decide +kernel
theorem lk_law__law_due_here : (defScope s_law).names.lookup ("_law_due_here" : Str) = some .local := by decide +kernel
theorem lk_law__law_found : (defScope s_law).names.lookup ("_law_found" : Str) = some .local := by decide +kernel
theorem lk_law__law_again : (defScope s_law).names.lookup ("_law_again" : Str) = some .local := by decide +kernel
theorem lk_law__law_at : (defScope s_law).names.lookup ("_law_at" : Str) = some .globalImplicit := by decide +kernel
theorem lk_law__law_copied : (defScope s_law).names.lookup ("_law_copied" : Str) = some .globalImplicit := by decide +kernel
theorem lk_law__law_due : (defScope s_law).names.lookup ("_law_due" : Str) = some .globalImplicit := by decide +kernel
theorem lk_law__law_good : (defScope s_law).names.lookup ("_law_good" : Str) = some .globalImplicit := by decide +kernel
theorem lk_law__law_mixed : (defScope s_law).names.lookup ("_law_mixed" : Str) = some .globalImplicit := by decide +kernel
theorem lk_law__law_place : (defScope s_law).names.lookup ("_law_place" : Str) = some .globalImplicit := by decide +kernel
theorem lk_law__law_table : (defScope s_law).names.lookup ("_law_table" : Str) = some .globalImplicit := by decide +kernel
theorem lk_law_pivoted : (defScope s_law).names.lookup ("pivoted" : Str) = some .globalImplicit := by decide +kernel
theorem lk_law_range : (defScope s_law).names.lookup ("range" : Str) = some .globalImplicit := by decide +kernel
theorem ok_law {ff fg CB : Addr} {df dg : FuncData} {dV : Value} {ds : List Value} {fDAt fDMx fDNu fDLo fDIF fDOr fDSa fDVa fDTi fDPl fDLr fDTa fDPc fDDu fDGo fDCo fDPv : Addr} {dDAt dDMx dDNu dDLo dDIF dDOr dDSa dDVa dDTi dDPl dDLr dDTa dDPc dDDu dDGo dDCo dDPv : FuncData} (F : Fun K "law" "law" s_law f fd) (B : Blt mg) (D : DefD K mg "fraction" s_fraction dV ff df ["top", "bottom"] ds) (G : DefAt K mg "greatest_divisor" s_greatest_divisor fg dg ["one", "other"]) (X : BadF K mg CB) (DAt : DefAt K mg "_law_at" s_lat fDAt dDAt ["_law_script", "_law_k"]) (DMx : DefAt K mg "_law_mixed" s_mixed fDMx dDMx ["_law_cell", "_law_k"]) (DNu : DefAt K mg "_law_number" s_number fDNu dDNu ["_law_number_here"]) (DLo : DefAt K mg "_law_lowest" s_lowest fDLo dDLo ["_law_top", "_law_bottom"]) (DIF : DefAt K mg "_law_is_fraction" s_isf fDIF dDIF ["_law_found"]) (DOr : DefAt K mg "_law_order" s_order fDOr dDOr ["_law_one", "_law_other"]) (DSa : DefAt K mg "_law_same" s_same fDSa dDSa ["_law_found", "_law_due_here"]) (DVa : DefAt K mg "value" s_value fDVa dDVa ["tableau", "at", "column"]) (DTi : DefAt K mg "_law_times" s_ltimes fDTi dDTi ["_law_one", "_law_other"]) (DPl : DefAt K mg "_law_plus" s_lplus fDPl dDPl ["_law_one", "_law_other"]) (DLr : DefAt K mg "lowered" s_lowered fDLr dDLr ["tableau", "part"]) (DTa : DefAt K mg "_law_table" s_table fDTa dDTa ["_law_script"]) (DPc : DefAt K mg "_law_place" s_place fDPc dDPc ["_law_table_here", "_law_number_here"]) (DDu : DefAt K mg "_law_due" s_due fDDu dDDu ["_law_table_here", "_law_at_here", "_law_column"]) (DGo : DefAt K mg "_law_good" s_good fDGo dDGo ["_law_found", "_law_due_here"]) (DCo : DefAt K mg "_law_copied" s_copied fDCo dDCo ["_law_tableau"]) (DPv : DefAt K mg "pivoted" s_pivoted fDPv dDPv ["tableau", "at", "column"]) : FnOk P w K mg base CX0 6 f fd ["_law_script"] (spLaw K) := by
  have OTa : FnOk P w K mg base CX0 2 fDTa dDTa ["_law_script"] (spTab K) := ok_table DTa.F B DAt DMx DNu
  have OL : FnOk P w K mg base CX0 1 fDLo dDLo ["_law_top", "_law_bottom"] (spLes K) := ok_lowest DLo.F B
  have OG : FnOk P w K mg base CX0 5 fDGo dDGo ["_law_found", "_law_due_here"] (spGood K) := ok_good DGo.F B D G X DLo DIF DOr DSa DVa
  have OPc : FnOk P w K mg base CX0 1 fDPc dDPc ["_law_table_here", "_law_number_here"] (spPlace K) := ok_place DPc.F B
  have OM : FnOk P w K mg base CX0 1 fDMx dDMx ["_law_cell", "_law_k"] spMx := ok_mixed DMx.F
  have OA : FnOk P w K mg base CX0 1 fDAt dDAt ["_law_script", "_law_k"] (spCell K) := ok_lat DAt.F B
  have OC : FnOk P w K mg base CX0 1 fDCo dDCo ["_law_tableau"] spCop := ok_copied DCo.F B
  have OD : FnOk P w K mg base CX0 2 fDDu dDDu ["_law_table_here", "_law_at_here", "_law_column"] (spDue K) := ok_due DDu.F B DTi DPl DLo
  have OPv : FnOk P w K mg base CX0 2 fDPv dDPv ["tableau", "at", "column"] spPiv := ok_pivoted DPv.F B DLr
  refine F.ok sc_law (fun vs H Q E h => ?_) (fun cdv A outer s H vs Q E hr h => ?_)
  · obtain ⟨_, _, rfl, _⟩ := h
    rfl
  obtain ⟨a, ns, rfl, hS, h63, few, kq⟩ := h
  have nd := sc_law.nd
  have hr2 : Room 2 _ := hr.mono (by decide)
  have hr1 : Room 1 _ := hr.mono (by decide)
  have hu0 := Nat.lt_of_le_of_lt (Nat.le_succ _) (hu_of hr)
  have hu64 := hr.units
  refine ⟨_, pss_cons (ps_set (i := 1) nd rfl (Or.inr lk_law__law_tableau) (pe_call OTa hr2 lk_law__law_table DTa.m DTa.F.kp DTa.b .nil pass0 (pa_Name (pv 0 rfl (Or.inl lk_law__law_script)) pa_nil)))
    (pss_cons (ps_setc (i0 := 2) nd rfl lk_law__law_table_here rfl (frees_of ["_law_row"] [("_law_tableau", 1)] ["_law_script", "_law_tableau", "_law_table_here", "_law_held", "_law_turn", "_law_place_here", "_law_handed", "_law_due_here", "_law_found", "_law_again"] (by decide +kernel)) (visC s_law (by decide +kernel)) (by decide +kernel) rfl (by decide +kernel) (fun y hy => PySem.mem_of_lookup hy) (pi_list (pe_ix ix_tup (pv 1 rfl (Or.inr (Or.inl lk_law__law_tableau))) (pe_int) (fun _ _ => rfl))) (fun cl C s H fp pins => pg_name (i := 0) (show (["_law_row", "_law_tableau"] : List Str).Nodup by decide +kernel) rfl (Or.inl (c_loc (by decide +kernel))) (.inr (c_loc (by decide +kernel)))) (fun cl C s H fp pins => pif_nil) (fun cl C s H fp pins => pe_comp rfl (frees_of ["_law_number_here"] [("_law_tableau", 1)] ["_law_row", "_law_tableau"] (by decide +kernel)) (visCC (by decide +kernel)) (by decide +kernel) rfl (by decide +kernel) (fun y hy => PySem.mem_of_lookup hy) (pi_listK (K := K) rfl (pv 0 rfl (c_vloc (by decide +kernel)))) (fun cl C s H fp pins => pg_name (i := 0) (show (["_law_number_here", "_law_tableau"] : List Str).Nodup by decide +kernel) rfl (Or.inl (c_loc (by decide +kernel))) (.inr (c_loc (by decide +kernel)))) (fun cl C s H fp pins => pif_nil) (fun cl C s H fp pins => pe_call OL hr1 (c_gl (by decide +kernel)) DLo.m DLo.F.kp DLo.b .nil pass0 (pa_Name (pv 0 rfl (c_vloc (by decide +kernel))) (pa_Subscript (pe_ix (ix_tupK (K := K) rfl) (pv 1 rfl (c_free (by decide +kernel))) (pe_int) (fun _ _ => rfl)) pa_nil)))))
    (pss_cons (ps_set (i := 3) nd rfl (Or.inl lk_law__law_held) (pe_lst pa_nil))
    (pss_cons (ps_if (pt_not (pt_val (pe_call OG hr lk_law__law_good DGo.m DGo.F.kp DGo.b .nil pass0 (pa_Name (pv 1 rfl (Or.inr (Or.inl lk_law__law_tableau))) (pa_Name (pv 2 rfl (Or.inl lk_law__law_table_here)) pa_nil))))) (pss_one (ps_ret (pe_bl))) (pss_nil))
    (pss_cons (ps_for PassesOwn.never rfl (pi_range1 lk_law_range B.range (pa_Constant (pe_int) pa_nil)) (pg_name (i := 4) nd rfl (Or.inl lk_law__law_turn)) (pss_cons (ps_set (i := 5) nd rfl (Or.inl lk_law__law_place_here) (pe_call OPc hr1 lk_law__law_place DPc.m DPc.F.kp DPc.b .nil pass0 (pa_Name (pv 2 rfl (Or.inl lk_law__law_table_here)) (pa_Call (pe_call OM hr1 lk_law__law_mixed DMx.m DMx.F.kp DMx.b .nil pass0 (pa_Call (pe_call OA hr1 lk_law__law_at DAt.m DAt.F.kp DAt.b .nil pass0 (pa_Name (pv 0 rfl (Or.inl lk_law__law_script)) (pa_Constant (pe_int) pa_nil))) (pa_Name (pv 4 rfl (Or.inl lk_law__law_turn)) pa_nil))) pa_nil))))
    (pss_cons (ps_if (pt_cmpR op_isN (pv 5 rfl (Or.inl lk_law__law_place_here)) (pe_non) (nomark _)) (pss_one (ps_ret (pe_bl))) (pss_nil))
    (pss_cons (ps_set (i := 6) nd rfl (Or.inl lk_law__law_handed) (pe_call OC hr1 lk_law__law_copied DCo.m DCo.F.kp DCo.b .nil pass0 (pa_Name (pv 1 rfl (Or.inr (Or.inl lk_law__law_tableau))) pa_nil)))
    (pss_cons (ps_set (i := 7) nd rfl (Or.inl lk_law__law_due_here) (pe_call OD hr2 lk_law__law_due DDu.m DDu.F.kp DDu.b .nil pass0 (pa_Name (pv 2 rfl (Or.inl lk_law__law_table_here)) (pa_Subscript (pe_ix ix_tup (pv 5 rfl (Or.inl lk_law__law_place_here)) (pe_int) (fun _ _ => rfl)) (pa_Subscript (pe_ix ix_tup (pv 5 rfl (Or.inl lk_law__law_place_here)) (pe_int) (fun _ _ => rfl)) pa_nil)))))
    (pss_cons (ps_set (i := 8) nd rfl (Or.inl lk_law__law_found) (pe_call OPv hr2 lk_law_pivoted DPv.m DPv.F.kp DPv.b .nil pass0 (pa_Name (pv 6 rfl (Or.inl lk_law__law_handed)) (pa_Subscript (pe_ix ix_tup (pv 5 rfl (Or.inl lk_law__law_place_here)) (pe_int) (fun _ _ => rfl)) (pa_Subscript (pe_ix ix_tup (pv 5 rfl (Or.inl lk_law__law_place_here)) (pe_int) (fun _ _ => rfl)) pa_nil)))))
    (pss_cons (ps_if (PW.pt (pw_or (pt_not (pt_val (pe_call OG hr lk_law__law_good DGo.m DGo.F.kp DGo.b .nil pass0 (pa_Name (pv 8 rfl (Or.inl lk_law__law_found)) (pa_Name (pv 7 rfl (Or.inl lk_law__law_due_here)) pa_nil))))) (pw_or1 (pt_cmpR (op_neA (K := K) rfl hu64) (pv 6 rfl (Or.inl lk_law__law_handed)) (pv 1 rfl (Or.inr (Or.inl lk_law__law_tableau))) (nomark _))))) (pss_one (ps_ret (pe_bl))) (pss_nil))
    (pss_cons (ps_expr (pe_bm PySem.F.plainAttrs_list PySem.F.slot_list_append PySem.F.type_list_append mt_append (pv 3 rfl (Or.inl lk_law__law_held)) (pa_Tuple (pe_tup (pa_Name (pv 8 rfl (Or.inl lk_law__law_found)) (pa_Call (pe_call OC hr1 lk_law__law_copied DCo.m DCo.F.kp DCo.b .nil pass0 (pa_Name (pv 8 rfl (Or.inl lk_law__law_found)) pa_nil)) pa_nil))) pa_nil)))
    (pss_cons (ps_expr (pe_bm PySem.F.plainAttrs_list PySem.F.slot_list_append PySem.F.type_list_append mt_append (pe_ix ix_list (pe_ix ix_tup (pv 6 rfl (Or.inl lk_law__law_handed)) (pe_int) (fun _ _ => rfl)) (pe_int) (fun _ _ => rfl)) (pa_Constant (pe_int) pa_nil)))
    (pss_cons (ps_set (i := 9) nd rfl (Or.inl lk_law__law_again) (pe_call OPv hr2 lk_law_pivoted DPv.m DPv.F.kp DPv.b .nil pass0 (pa_Call (pe_call OC hr1 lk_law__law_copied DCo.m DCo.F.kp DCo.b .nil pass0 (pa_Name (pv 1 rfl (Or.inr (Or.inl lk_law__law_tableau))) pa_nil)) (pa_Subscript (pe_ix ix_tup (pv 5 rfl (Or.inl lk_law__law_place_here)) (pe_int) (fun _ _ => rfl)) (pa_Subscript (pe_ix ix_tup (pv 5 rfl (Or.inl lk_law__law_place_here)) (pe_int) (fun _ _ => rfl)) pa_nil)))))
    (pss_cons (ps_if (pt_not (pt_val (pe_call OG hr lk_law__law_good DGo.m DGo.F.kp DGo.b .nil pass0 (pa_Name (pv 9 rfl (Or.inl lk_law__law_again)) (pa_Name (pv 7 rfl (Or.inl lk_law__law_due_here)) pa_nil))))) (pss_one (ps_ret (pe_bl))) (pss_nil))
    (pss_cons (ps_expr (pe_bm0 PySem.F.plainAttrs_list PySem.F.slot_list_clear PySem.F.type_list_clear mt_clear (pe_ix ix_tup (pv 9 rfl (Or.inl lk_law__law_again)) (pe_int) (fun _ _ => rfl))))
    (pss_cons (ps_set (i := 2) nd rfl (Or.inl lk_law__law_table_here) (pv 7 rfl (Or.inl lk_law__law_due_here)))
    (pss_one (ps_set (i := 1) nd rfl (Or.inr lk_law__law_tableau) (pe_call OC hr1 lk_law__law_copied DCo.m DCo.F.kp DCo.b .nil pass0 (pa_Name (pv 8 rfl (Or.inl lk_law__law_found)) pa_nil)))))))))))))))))
    (pss_one (ps_ret (pe_cmpR (op_eqLF (K := K) rfl hu0) (pe_comp rfl (frees_of ["_law_pair"] [] ["_law_script", "_law_tableau", "_law_table_here", "_law_held", "_law_turn", "_law_place_here", "_law_handed", "_law_due_here", "_law_found", "_law_again"] (by decide +kernel)) (noFree rfl) (by decide +kernel) rfl (by decide +kernel) (fun y hy => PySem.mem_of_lookup hy) (pi_list (pv 3 rfl (Or.inl lk_law__law_held))) (fun cl C s H fp pins => pg_name (i := 0) (show (["_law_pair"] : List Str).Nodup by decide +kernel) rfl (Or.inl (c_loc (by decide +kernel))) (.inr (c_loc (by decide +kernel)))) (fun cl C s H fp pins => pif_one (pt_cmpR (op_neA (K := K) rfl hu64) (pe_ix (ix_tupK (K := K) rfl) (pv 0 rfl (c_vloc (by decide +kernel))) (pe_int) (fun _ _ => rfl)) (pe_ix (ix_tupK (K := K) rfl) (pv 0 rfl (c_vloc (by decide +kernel))) (pe_int) (fun _ _ => rfl)) (nomark _))) (fun cl C s H fp pins => pv 0 rfl (c_vloc (by decide +kernel)))) (pe_lst pa_nil) (nomark _)))))))), ?_⟩
  refine ⟨_, rfl, a, ns, rfl, hS, few, fun tp rows sc n m H1 s1 tF1 tb s0 sb => ?_⟩
  obtain ⟨l, hp, rv, _, hl, pr⟩ := id tF1
  have rl : rv.length = rows.length := Paired.length pr
  have hn := tb.hn
  obtain ⟨_, n4, _, m5⟩ := tb.nm
  refine ⟨_, rfl, tp, _, _, _, rfl, rfl, SqT.of hp, rfl, l, rfl, ⟨_, SqL.of hl⟩, fun fp hfp => ?_⟩
  refine comp_same (J := Itl K l) (xs := rv) hfp (by rw [rl, sizeLine_eq]; omega) (goL (SqL.of hl)) (stL (SqL.of hl)) (yL (SqL.of hl)) (fun i ys σ G => (∃ k : Option V, σ = [k, some (.ref tp)]) ∧ Paired (FrAt K e0 G) ys ((rows.map (·.map fun x => mkF x sc)).take i))
    ⟨⟨none, rfl⟩, .nil⟩ (fun i x ys σ H2 hx hq eD sm Ry Rn r1 r2 => ?_) (fun ys σ H2 hq eD sm => ?_)
  · obtain ⟨⟨k0, rfl⟩, pq⟩ := hq
    have hi : i < rows.length := by rw [← rl]; exact (List.getElem?_eq_some_iff.mp hx).1
    obtain ⟨r, rfl, _, hr'⟩ := pair_get pr i _ _ hx (List.getElem?_eq_getElem hi)
    have sA : Same H1 H2 := sm.trans hid_le
    have rm := tb.hm _ (List.getElem_mem hi)
    refine ⟨_, rfl, r, rfl, ⟨_, SqL.of (sA _ _ hr')⟩, fun D2 hD2 => ?_⟩
    have nDD : D2 ≠ fp := fun z => by rw [z, eD] at hD2; cases hD2
    refine comp_same (J := Itl K r) (xs := rows[i].map V.int) hD2 (by rw [List.length_map, rm, sizeLine_eq]; omega) (goL (SqL.of (sA _ _ hr'))) (stL (SqL.of (sA _ _ hr'))) (yL (SqL.of (sA _ _ hr'))) (fun c ls σ G => (∃ k : Option V, σ = [k, some (.ref tp)]) ∧ Paired (IsF K G) ls ((rows[i].map fun x => mkF x sc).take c))
      ⟨⟨none, rfl⟩, .nil⟩ (fun c u ls σ H6 hu hq6 eD6 sm6 Ry6 Rn6 r61 r62 => ?_) (fun ls σ H6 hq6 eD6 sm6 => ?_)
    · obtain ⟨⟨k6, rfl⟩, pl⟩ := hq6
      rw [List.getElem?_map] at hu
      obtain ⟨z, hz, rfl⟩ := Option.map_eq_some_iff.mp hu
      refine ⟨_, rfl, _, rfl, tp, _, _, _, rfl, rfl, SqT.of ((sA.trans (sm6.trans hid_le)) _ _ hp), rfl, z, sc, rfl, s0, lt_big sb (by decide), fun r7 H7 s7 f7 => ?_⟩
      refine r61 _ _ H7 s7 ⟨⟨_, rfl⟩, ?_⟩
      rw [take_next (x := mkF z sc) (by rw [List.getElem?_map, hz]; rfl)]
      exact Paired.snoc (fs_same (hid_same s7) pl) (f7.hid (s7 _ _ eD6))
    · obtain ⟨_, pl⟩ := hq6
      rw [List.length_map, List.take_of_length_le (by rw [List.length_map]; exact Nat.le_refl _)] at pl
      have s56 : Same H2 H6 := sm6.trans hid_le
      refine r1 _ _ H6 s56 ⟨⟨_, rfl⟩, ?_⟩
      rw [take_next (x := rows[i].map fun x => mkF x sc) (by rw [List.getElem?_map, List.getElem?_eq_getElem hi]; rfl)]
      exact Paired.snoc (Paired.mapP pq fun _ _ q => q.same (hid_same s56)) ⟨D2, ls, rfl, rfl, by rw [hid_ne nDD]; exact eD6, Paired.mapP pl fun _ _ q => (q.same hid_le).hid (s56 _ _ eD)⟩
  obtain ⟨_, pq⟩ := hq
  rw [rl, List.take_of_length_le (by rw [List.length_map]; exact Nat.le_refl _)] at pq
  have s12 : Same H1 H2 := sm.trans hid_le
  have sH2 := s1.trans s12
  have inv0 : LInv K H2 a ns tp fp rows sc (rows.map (·.map fun x => mkF x sc)) n m 31 := ⟨sH2.seq hS, (tF1.same s12).base (e0_same _), ⟨ys, rfl, eD, Paired.mapP pq fun _ _ q => q.same hid_le⟩, rel_init s0, tb, s0, sb⟩
  generalize rows.map (·.map fun x => mkF x sc) = frs at inv0 -- nd
  clear pq eD sm hl pr hp rl tF1 s12 s1 hfp hn n4 m5
  refine ⟨(by show 0 ≤ sizeLine; decide), fun hl n3 => ?_⟩
  generalize hH_ : upd _ hl _ = H3
  obtain ⟨s3, e3⟩ := upd_new hH_ n3
  clear hH_
  have sg3 : Same H2 (hid hl H3) := fun b o e => by rw [hid_ne (ne_of_none e n3)]; exact s3 b o e
  dsimp only [tSeq, gName]
  refine ifS_by (b := false) (fun R hR => ?_) (fun z => absurd z (by decide)) (fun _ H4 s4 => ?_)
  · have i3 := inv0.same s3
    exact ⟨_, rfl, _, rfl, tp, fp, rows, sc, frs, n, m, 31, rfl, i3.tab, i3.fr, i3.rel, i3.tb, i3.s0, i3.sb, by decide, fun H' s' => ⟨true, rfl, hR _ s'⟩⟩
  have inv1 := inv0.same (sg3.trans (hid_same s4))
  have e4 := s4 _ _ e3
  clear inv0 sg3 e3 n3
  refine ⟨3, rfl, by decide, by decide, ?_⟩
  refine for_range (fun i σ H' => ∃ (tu pl ha du fo ag : Option V) (tp fp : Addr) (rows : List (List Int)) (sc : Int) (frs : List (List Fq)) (n m k : Nat) (ps : List V), σ = [some (.ref a), some (.ref tp), some (.ref fp), some (.ref hl), tu, pl, ha, du, fo, ag] ∧ LInv K (hid hl H') a ns tp fp rows sc frs n m k ∧ k + 1 ≤ 32 * 2 ^ i ∧ H' hl = some (.lst ps) ∧ (∀ v ∈ ps, PairG (hid hl H') v) ∧ ps.length = i)
    ⟨none, none, none, none, none, none, tp, fp, rows, sc, frs, n, m, 31, [], rfl, inv1, by decide, e4, by simp, rfl⟩ (fun i σ H' hi h => ?_) (fun σ H' h => ?_)
  · clear inv1 e4 s4 s3 sH2 tb s0 sb
    obtain ⟨tu, pl, ha, du, fo, ag, tp, fp, rows, sc, frs, n, m, k, ps, rfl, inv, hk, eh, hps, psl⟩ := h
    have k300 : k ≤ 300 := by
      have : i = 0 ∨ i = 1 ∨ i = 2 := by omega
      rcases this with rfl | rfl | rfl <;> omega
    have tf := rel_tf inv.rel inv.tb inv.s0 inv.sb
    have rl4 : rows.length ≤ 100 := by have := inv.tb.hn; have := inv.tb.nm; omega
    have inv' := inv.same hid_le
    refine ⟨_, rfl, _, rfl, a, ns, 1, rfl, inv'.hS, few, by decide, fun n1 f1 => ⟨_, rfl, n1, 0 + (i : Int), rfl, by omega, by omega, fun m1 a1 b1 => ⟨fp, m1, frs, n, m, k, rfl, inv'.fr, tf, fun H5 s5 => ?_, fun v H5 s5 pt => ?_⟩⟩⟩
    · exact ⟨_, rfl, rfl, _, rfl, iteY rfl (kq _)⟩
    obtain ⟨t, pi, pj, rfl, et, hpi, hpj, hz⟩ := pt
    have hpi' : pi < n := by have := tf.hn; omega
    have hpj' : pj < m := by rw [(tf.row hpi').1] at hpj; exact hpj
    have pz : pvA rows pi pj ≠ 0 := fun e => by
      have := (rel_at inv.rel inv.tb hpi' hpj').2
      rw [e, Int.zero_mul] at this
      rcases Int.mul_eq_zero.mp this.symm with q | q
      · exact hz q
      · have := inv.s0; omega
    refine ⟨_, rfl, rfl, _, rfl, iteN rfl ?_⟩
    have inv5 := inv'.same s5
    refine ⟨_, rfl, tp, rows, sc, rfl, inv5.tab, rl4, fun hd H6 s6 tF6 => ?_⟩
    have inv6 := inv5.same s6
    have et6 := s6 _ _ et
    refine ⟨_, rfl, _, rfl, t, _, _, _, rfl, rfl, SqT.of et6, rfl, _, rfl, t, _, _, _, rfl, rfl, SqT.of et6, rfl, fp, frs, n, m, k, pi, pj, rfl, inv6.fr, tf, k300, hpi', hpj', hz, fun dp H7 s7 dF => ?_⟩
    have tF7 := tF6.same s7
    have et7 := s7 _ _ et6
    refine ⟨_, rfl, _, rfl, t, _, _, _, rfl, rfl, SqT.of et7, rfl, _, rfl, t, _, _, _, rfl, rfl, SqT.of et7, rfl, hd, rows, sc, n, m, k, pi, pj, rfl, tF7.base (e0_same _), inv.tb, inv.s0, inv.sb, k300, hpi', hpj', pz, fun fo' rows' sc' H8 s8 fF pok => ?_⟩
    obtain ⟨rel', s0', tb', sb'⟩ := rel_piv inv.rel inv.tb inv.s0 inv.sb hpi' hpj' hz pok
    have kk : k + k + 1 ≤ 300 := by
      have : i = 0 ∨ i = 1 ∨ i = 2 := by omega
      rcases this with rfl | rfl | rfl <;> omega
    dsimp only [tSeq, gName]
    refine ifS_by (b := (false || false)) (Tells.or (fun R hR => ⟨_, rfl, _, rfl, fo', dp, rows', sc', dueV frs pi pj, n, m, k + k + 1, rfl, fF.base (e0_same _), (dF.same s8).base (e0_same _), rel', tb', s0', sb', kk, fun H' s' => ⟨true, rfl, hR _ s'⟩⟩) fun _ H9 s9 R hR => ?_) (fun z => absurd z (by decide)) (fun _ H9 s9 => ?_)
    · obtain ⟨xs, zs, q1, q2, pa⟩ := alike_tab (K := K) (tF7.same (s8.trans s9)) (inv6.tab.same (s7.trans (s8.trans s9)))
      exact ⟨_, rfl, _, rfl, hd, tp, xs, zs, rfl, rfl, .inl ⟨q1, q2⟩, pa, _, rfl, hR _ Same.refl'⟩
    have fF9 := fF.same s9
    have s79 := s8.trans s9
    have s69 := s7.trans s79
    have s59 := s6.trans s69
    have s09 := s5.trans s59
    have eh9 := s09 _ _ eh
    have rl4' : rows'.length ≤ 100 := by have := tb'.hn; have := tb'.nm; omega
    refine ⟨_, rfl, .inl ⟨rfl, _, SqL.of eh9⟩, _, rfl, _, rfl, fo', rows', sc', rfl, fF9.base (e0_same _), rl4', fun cp H10 s10 cF => ?_⟩
    refine ⟨(by show 2 ≤ sizeLine; decide), fun t2 hz_t2 => ?_⟩
    generalize hH_ : upd _ t2 _ = H11
    obtain ⟨s11, e11⟩ := upd_new hH_ hz_t2
    clear hH_
    have s9b := s10.trans s11
    have eh11 := s9b _ _ eh9
    refine ⟨hl, _, _, rfl, rfl, eh11, (by rw [psl, sizeLine_eq]; omega), ?_⟩
    -- the row that is handed in
    obtain ⟨lh, hph, rvh, nlh, hlh, prh⟩ := tF7.same (s79.trans s9b)
    obtain ⟨r0, er0, nr0, hr0⟩ := row_at prh (show 0 < rows.length by have := inv.tb.hn; have := inv.tb.nm; omega)
    have nhl0 : hl ≠ r0 := ne_of_none ((s5 _ _ eh)) nr0
    have nhlh : hl ≠ lh := ne_of_none ((s5 _ _ eh)) nlh
    have hp12 : upd H11 hl (.lst (ps ++ [.ref t2])) hd = some (.tup [.ref lh, .int sc]) := by rw [upd_ne (ne_of hph eh11 (fun z => nomatch z))]; exact hph
    have hl12 : upd H11 hl (.lst (ps ++ [.ref t2])) lh = some (.lst rvh) := by rw [upd_ne (Ne.symm nhlh)]; exact hlh
    have hr12 : upd H11 hl (.lst (ps ++ [.ref t2])) r0 = some (.lst ((rows.getD 0 []).map V.int)) := by rw [upd_ne (Ne.symm nhl0)]; exact hr0
    have m5 := inv.tb.nm
    refine ⟨_, rfl, hd, _, _, _, rfl, rfl, SqT.of hp12, rfl, lh, _, _, _, rfl, rfl, SqL.of hl12, er0, .inl ⟨rfl, _, SqL.of hr12⟩, ⟨r0, _, _, rfl, rfl, hr12, (by rw [List.length_map, (inv.tb.row (show 0 < n by omega)).1, sizeLine_eq]; omega), ?_⟩⟩
    -- what stays
    have h6l : H6 hl = some (.lst ps) := (s5.trans s6) _ _ eh
    have h6r : H6 r0 = some (.lst ((rows.getD 0 []).map V.int)) := by
      obtain ⟨lh', hph', rvh', _, hlh', prh'⟩ := id tF6
      have e1 := (s69.trans s9b) _ _ hph'
      rw [hph] at e1
      cases e1
      have e2 := (s69.trans s9b) _ _ hlh'
      rw [hlh] at e2
      cases e2
      obtain ⟨r1, er1, _, hr1'⟩ := row_at prh' (show 0 < rows.length by have := inv.tb.hn; omega)
      rw [er0] at er1
      cases er1
      exact hr1'
    have keepT : ∀ b xs, H11 b = some (.tup xs) → upd (upd H11 hl (.lst (ps ++ [.ref t2]))) r0 (.lst ((rows.getD 0 []).map V.int ++ [.int 0])) b = some (.tup xs) := fun b xs e => by
      rw [upd_ne (ne_of e hr0 (fun z => nomatch z)), upd_ne (ne_of e eh11 (fun z => nomatch z))]; exact e
    have keepG : Same (hid hl H') (hid hl (upd (upd H11 hl (.lst (ps ++ [.ref t2]))) r0 (.lst ((rows.getD 0 []).map V.int ++ [.int 0])))) := fun b o e => by
      have nb : b ≠ hl := fun z => by rw [z, hid_at] at e; cases e
      rw [hid_ne nb] at e ⊢
      rw [upd_ne (ne_of_none e (s5.free nr0)), upd_ne nb]
      exact (s09.trans s9b) _ _ e
    have dF12 := ((dF.same (s79.trans s9b)).upd (o' := .lst (ps ++ [.ref t2])) h6l eh11).upd (o' := .lst ((rows.getD 0 []).map V.int ++ [.int 0])) h6r hr12
    have fF12 := ((fF9.same s9b).upd (o' := .lst (ps ++ [.ref t2])) (s7 _ _ h6l) eh11).upd (o' := .lst ((rows.getD 0 []).map V.int ++ [.int 0])) (s7 _ _ h6r) hr12
    have cF12 := ((cF.same s11).upd (o' := .lst (ps ++ [.ref t2])) (s69 _ _ h6l) eh11).upd (o' := .lst ((rows.getD 0 []).map V.int ++ [.int 0])) (s69 _ _ h6r) hr12
    have t12 := keepT _ _ e11
    have et12 := keepT _ _ ((s79.trans s9b) _ _ et7)
    have eh12 : upd (upd H11 hl (.lst (ps ++ [.ref t2]))) r0 (.lst ((rows.getD 0 []).map V.int ++ [.int 0])) hl = some (.lst (ps ++ [.ref t2])) := by rw [upd_ne nhl0]; exact upd_same
    generalize upd (upd H11 hl (.lst (ps ++ [.ref t2]))) r0 (.lst ((rows.getD 0 []).map V.int ++ [.int 0])) = H12 at keepG dF12 fF12 cF12 t12 et12 eh12 ⊢ -- nd
    have inv12 := (inv.same keepG).same hid_le
    refine ⟨_, rfl, tp, rows, sc, rfl, inv12.tab, rl4, fun c2 H13 s13 cF2 => ?_⟩
    have et13 := s13 _ _ et12
    refine ⟨_, rfl, t, _, _, _, rfl, rfl, SqT.of et13, rfl, _, rfl, t, _, _, _, rfl, rfl, SqT.of et13, rfl, c2, rows, sc, n, m, k, pi, pj, rfl, cF2.base (e0_same _), inv.tb, inv.s0, inv.sb, k300, hpi', hpj', pz, fun ag' rows2 sc2 H14 s14 aF pok2 => ?_⟩
    obtain ⟨rel2, s02, tb2, sb2⟩ := rel_piv inv.rel inv.tb inv.s0 inv.sb hpi' hpj' hz pok2
    have s1214 := s13.trans s14
    dsimp only [tSeq, gName]
    refine ifS_by (b := false) (fun R hR => ⟨_, rfl, _, rfl, ag', dp, rows2, sc2, dueV frs pi pj, n, m, k + k + 1, rfl, aF.base (e0_same _), (dF12.same s1214).base (e0_same _), rel2, tb2, s02, sb2, kk, fun H' s' => ⟨true, rfl, hR _ s'⟩⟩) (fun z => absurd z (by decide)) (fun _ H15 s15 => ?_)
    obtain ⟨la, hpa, rva, nla, hla, _⟩ := aF.same s15
    have s1215 := s1214.trans s15
    refine ⟨_, rfl, ag', _, _, _, rfl, rfl, SqT.of hpa, rfl, .inl ⟨rfl, _, SqL.of hla⟩, ⟨la, _, rfl, rfl, hla, ?_⟩⟩
    have s16 : Same H12 (upd H15 la (.lst [])) := same_upd s1215 (s13.free nla)
    generalize upd H15 la (.lst []) = H16 at s16 ⊢ -- nd
    refine ⟨_, rfl, _, rfl, fo', rows', sc', rfl, (fF12.same s16).base (e0_same _), rl4', fun tp2 H17 s17 tF2 => ?_⟩
    have s1217 := s16.trans s17
    have eh17 := s1217 _ _ eh12
    have kG := keepG.trans (hid_same (D := hl) s1217)
    have h7l := s7 _ _ h6l
    have h9l := s69 _ _ h6l
    have h16l := s16 _ _ eh12
    refine ⟨_, _, _, _, _, _, tp2, dp, rows', sc', dueV frs pi pj, n, m, k + k + 1, ps ++ [.ref t2], rfl, ⟨(inv.same kG).hS, (tF2.hid h16l eh17).base (e0_same _), ((dF12.same s1217).hid h6l eh17).base (e0_same _), rel', tb', s0', sb'⟩, by rw [Nat.pow_succ]; omega, eh17, fun v hv => ?_, by rw [List.length_append, psl]; rfl⟩
    rcases List.mem_append.mp hv with h | h
    · exact (hps v h).same kG
    · rw [List.mem_singleton.mp h]
      exact ⟨t2, fo', cp, rows', sc', rfl, tup_hid eh17 (s1217 _ _ t12), ((fF12.same s1217).hid h7l eh17).base (e0_same _), ((cF12.same s1217).hid h9l eh17).base (e0_same _)⟩
  obtain ⟨tu, pl, ha, du, fo, ag, tp, fp, rows, sc, frs, n, m, k, ps, rfl, inv, hk, eh, hps, psl⟩ := h
  refine ⟨_, rfl, hl, rfl, ⟨_, SqL.of eh⟩, fun D' hD' => ?_⟩
  refine comp_same (J := Itl K hl) (xs := ps) hD' (by rw [psl, sizeLine_eq]; decide) (goL (SqL.of eh)) (stL (SqL.of eh)) (yL (SqL.of eh)) (fun i ys σ G => (∃ k : Option V, σ = [k]) ∧ ys = []) ⟨⟨none, rfl⟩, rfl⟩ (fun i x ys σ H'' hx hp' eD sm' Ry Rn r1 r2 => ?_) (fun ys σ H'' hp' eD sm' => ?_)
  · obtain ⟨⟨k0, rfl⟩, rfl⟩ := hp'
    obtain ⟨t, p, q, rows, sc, rfl, et, f1, f2⟩ := (hps x (List.mem_of_getElem? hx)).same (hid_le.trans (sm'.trans hid_le))
    obtain ⟨xs, zs, q1, q2, pa⟩ := alike_tab (K := K) f1 f2
    refine ⟨_, rfl, t, _, _, _, rfl, rfl, SqT.of et, rfl, _, rfl, t, _, _, _, rfl, rfl, SqT.of et, rfl, p, q, xs, zs, rfl, rfl, .inl ⟨q1, q2⟩, pa, _, rfl, iteN rfl ?_⟩
    exact r2 _ H'' Same.refl' ⟨⟨_, rfl⟩, rfl⟩
  obtain ⟨_, rfl⟩ := hp'
  refine ⟨(by show 0 ≤ sizeLine; decide), fun l1 hz_l1 => ?_⟩
  generalize hH_ : upd _ l1 _ = H8
  obtain ⟨s8, e8⟩ := upd_new hH_ hz_l1
  clear hH_
  exact ⟨D', l1, [], [], rfl, rfl, SqL.of (s8 _ _ eD), SqL.of e8, rfl, rfl, kq H8⟩
end
end Pw


set_option Elab.async false
set_option linter.all false
set_option maxRecDepth 100000
set_option maxHeartbeats 4000000
namespace Pw
open PySem L2
theorem all_mk {l : PySem.W.OpenLaw} {w : World} {K : PySem.W.Frag} {h : Heap} {mg : Str → Option Value} {fa f1 f2 f3 f4 f5 f6 f7 f8 f9 f10 f11 f12 f13 f14 f15 f16 f17 f18 f19 f20 dt : Addr}
    {od1 an1 od2 an2 od3 an3 od4 an4 od5 an5 od6 an6 od7 an7 od8 an8 od9 an9 od10 an10 od11 an11 od12 an12 od13 an13 od14 an14 od15 an15 od16 an16 od17 an17 od18 an18 od19 an19 od20 an20 : Option Addr}
    {sl1 sl2 sl3 sl4 sl5 sl6 sl7 sl8 sl9 sl10 sl11 sl12 sl13 sl14 sl15 sl16 sl17 sl18 sl19 sl20 : Array (Option Value)}
    {oc1 kV1 dc1 pm1 cd1 ct1 oc2 kV2 dc2 pm2 cd2 ct2 oc3 kV3 dc3 pm3 cd3 ct3 oc4 kV4 dc4 pm4 cd4 ct4 oc5 kV5 dc5 pm5 cd5 ct5 oc6 kV6 dc6 pm6 cd6 ct6 oc7 kV7 dc7 pm7 cd7 ct7 oc8 kV8 dc8 pm8 cd8 ct8 oc9 kV9 dc9 pm9 cd9 ct9 oc10 kV10 dc10 pm10 cd10 ct10 oc11 kV11 dc11 pm11 cd11 ct11 oc12 kV12 dc12 pm12 cd12 ct12 oc13 kV13 dc13 pm13 cd13 ct13 oc14 kV14 dc14 pm14 cd14 ct14 oc15 kV15 dc15 pm15 cd15 ct15 oc16 kV16 dc16 pm16 cd16 ct16 oc17 kV17 dc17 pm17 cd17 ct17 oc18 kV18 dc18 pm18 cd18 ct18 oc19 kV19 dc19 pm19 cd19 ct19 oc20 kV20 dc20 pm20 cd20 ct20 : Value}
    {CB : Addr}
    {tod : Option Addr} {tn : Nat} {tsl : Array (Option Value)} {t1 : Tok}
    (X : K.In h) (G : h.Ns mainGlobals mg) (hfa : mg "law" = some (.ref fa))
    (a1 : PySem.W.nsIn K mainGlobals "greatest_divisor" = some (some (.ref f1))) (l1 : K.lookup f1 = some ⟨oc1, od1, .func (PySem.W.fnOf "greatest_divisor" "greatest_divisor" (defArgs s_greatest_divisor) (defBody s_greatest_divisor) (defScope s_greatest_divisor) .none kV1 dc1 pm1 an1 cd1 ct1), sl1⟩) (c1 : PySem.W.codeIn K cd1 "greatest_divisor" = true) (k1 : PySem.W.keepIn K (.ref f1) = true)
    (a2 : PySem.W.nsIn K mainGlobals "fraction" = some (some (.ref f2))) (l2 : K.lookup f2 = some ⟨oc2, od2, .func (PySem.W.fnOf "fraction" "fraction" (defArgs s_fraction) (defBody s_fraction) (defScope s_fraction) (.ref dt) kV2 dc2 pm2 an2 cd2 ct2), sl2⟩) (c2 : PySem.W.codeIn K cd2 "fraction" = true) (k2 : PySem.W.keepIn K (.ref f2) = true)
    (a3 : PySem.W.nsIn K mainGlobals "pivoted" = some (some (.ref f3))) (l3 : K.lookup f3 = some ⟨oc3, od3, .func (PySem.W.fnOf "pivoted" "pivoted" (defArgs s_pivoted) (defBody s_pivoted) (defScope s_pivoted) .none kV3 dc3 pm3 an3 cd3 ct3), sl3⟩) (c3 : PySem.W.codeIn K cd3 "pivoted" = true) (k3 : PySem.W.keepIn K (.ref f3) = true)
    (a4 : PySem.W.nsIn K mainGlobals "lowered" = some (some (.ref f4))) (l4 : K.lookup f4 = some ⟨oc4, od4, .func (PySem.W.fnOf "lowered" "lowered" (defArgs s_lowered) (defBody s_lowered) (defScope s_lowered) .none kV4 dc4 pm4 an4 cd4 ct4), sl4⟩) (c4 : PySem.W.codeIn K cd4 "lowered" = true) (k4 : PySem.W.keepIn K (.ref f4) = true)
    (a5 : PySem.W.nsIn K mainGlobals "value" = some (some (.ref f5))) (l5 : K.lookup f5 = some ⟨oc5, od5, .func (PySem.W.fnOf "value" "value" (defArgs s_value) (defBody s_value) (defScope s_value) .none kV5 dc5 pm5 an5 cd5 ct5), sl5⟩) (c5 : PySem.W.codeIn K cd5 "value" = true) (k5 : PySem.W.keepIn K (.ref f5) = true)
    (a6 : PySem.W.nsIn K mainGlobals "_law_at" = some (some (.ref f6))) (l6 : K.lookup f6 = some ⟨oc6, od6, .func (PySem.W.fnOf "_law_at" "_law_at" (defArgs s_lat) (defBody s_lat) (defScope s_lat) .none kV6 dc6 pm6 an6 cd6 ct6), sl6⟩) (c6 : PySem.W.codeIn K cd6 "_law_at" = true) (k6 : PySem.W.keepIn K (.ref f6) = true)
    (a7 : PySem.W.nsIn K mainGlobals "_law_mixed" = some (some (.ref f7))) (l7 : K.lookup f7 = some ⟨oc7, od7, .func (PySem.W.fnOf "_law_mixed" "_law_mixed" (defArgs s_mixed) (defBody s_mixed) (defScope s_mixed) .none kV7 dc7 pm7 an7 cd7 ct7), sl7⟩) (c7 : PySem.W.codeIn K cd7 "_law_mixed" = true) (k7 : PySem.W.keepIn K (.ref f7) = true)
    (a8 : PySem.W.nsIn K mainGlobals "_law_lowest" = some (some (.ref f8))) (l8 : K.lookup f8 = some ⟨oc8, od8, .func (PySem.W.fnOf "_law_lowest" "_law_lowest" (defArgs s_lowest) (defBody s_lowest) (defScope s_lowest) .none kV8 dc8 pm8 an8 cd8 ct8), sl8⟩) (c8 : PySem.W.codeIn K cd8 "_law_lowest" = true) (k8 : PySem.W.keepIn K (.ref f8) = true)
    (a9 : PySem.W.nsIn K mainGlobals "_law_plus" = some (some (.ref f9))) (l9 : K.lookup f9 = some ⟨oc9, od9, .func (PySem.W.fnOf "_law_plus" "_law_plus" (defArgs s_lplus) (defBody s_lplus) (defScope s_lplus) .none kV9 dc9 pm9 an9 cd9 ct9), sl9⟩) (c9 : PySem.W.codeIn K cd9 "_law_plus" = true) (k9 : PySem.W.keepIn K (.ref f9) = true)
    (a10 : PySem.W.nsIn K mainGlobals "_law_times" = some (some (.ref f10))) (l10 : K.lookup f10 = some ⟨oc10, od10, .func (PySem.W.fnOf "_law_times" "_law_times" (defArgs s_ltimes) (defBody s_ltimes) (defScope s_ltimes) .none kV10 dc10 pm10 an10 cd10 ct10), sl10⟩) (c10 : PySem.W.codeIn K cd10 "_law_times" = true) (k10 : PySem.W.keepIn K (.ref f10) = true)
    (a11 : PySem.W.nsIn K mainGlobals "_law_order" = some (some (.ref f11))) (l11 : K.lookup f11 = some ⟨oc11, od11, .func (PySem.W.fnOf "_law_order" "_law_order" (defArgs s_order) (defBody s_order) (defScope s_order) .none kV11 dc11 pm11 an11 cd11 ct11), sl11⟩) (c11 : PySem.W.codeIn K cd11 "_law_order" = true) (k11 : PySem.W.keepIn K (.ref f11) = true)
    (a12 : PySem.W.nsIn K mainGlobals "_law_is_fraction" = some (some (.ref f12))) (l12 : K.lookup f12 = some ⟨oc12, od12, .func (PySem.W.fnOf "_law_is_fraction" "_law_is_fraction" (defArgs s_isf) (defBody s_isf) (defScope s_isf) .none kV12 dc12 pm12 an12 cd12 ct12), sl12⟩) (c12 : PySem.W.codeIn K cd12 "_law_is_fraction" = true) (k12 : PySem.W.keepIn K (.ref f12) = true)
    (a13 : PySem.W.nsIn K mainGlobals "_law_same" = some (some (.ref f13))) (l13 : K.lookup f13 = some ⟨oc13, od13, .func (PySem.W.fnOf "_law_same" "_law_same" (defArgs s_same) (defBody s_same) (defScope s_same) .none kV13 dc13 pm13 an13 cd13 ct13), sl13⟩) (c13 : PySem.W.codeIn K cd13 "_law_same" = true) (k13 : PySem.W.keepIn K (.ref f13) = true)
    (a14 : PySem.W.nsIn K mainGlobals "_law_number" = some (some (.ref f14))) (l14 : K.lookup f14 = some ⟨oc14, od14, .func (PySem.W.fnOf "_law_number" "_law_number" (defArgs s_number) (defBody s_number) (defScope s_number) .none kV14 dc14 pm14 an14 cd14 ct14), sl14⟩) (c14 : PySem.W.codeIn K cd14 "_law_number" = true) (k14 : PySem.W.keepIn K (.ref f14) = true)
    (a15 : PySem.W.nsIn K mainGlobals "_law_table" = some (some (.ref f15))) (l15 : K.lookup f15 = some ⟨oc15, od15, .func (PySem.W.fnOf "_law_table" "_law_table" (defArgs s_table) (defBody s_table) (defScope s_table) .none kV15 dc15 pm15 an15 cd15 ct15), sl15⟩) (c15 : PySem.W.codeIn K cd15 "_law_table" = true) (k15 : PySem.W.keepIn K (.ref f15) = true)
    (a16 : PySem.W.nsIn K mainGlobals "_law_place" = some (some (.ref f16))) (l16 : K.lookup f16 = some ⟨oc16, od16, .func (PySem.W.fnOf "_law_place" "_law_place" (defArgs s_place) (defBody s_place) (defScope s_place) .none kV16 dc16 pm16 an16 cd16 ct16), sl16⟩) (c16 : PySem.W.codeIn K cd16 "_law_place" = true) (k16 : PySem.W.keepIn K (.ref f16) = true)
    (a17 : PySem.W.nsIn K mainGlobals "_law_due" = some (some (.ref f17))) (l17 : K.lookup f17 = some ⟨oc17, od17, .func (PySem.W.fnOf "_law_due" "_law_due" (defArgs s_due) (defBody s_due) (defScope s_due) .none kV17 dc17 pm17 an17 cd17 ct17), sl17⟩) (c17 : PySem.W.codeIn K cd17 "_law_due" = true) (k17 : PySem.W.keepIn K (.ref f17) = true)
    (a18 : PySem.W.nsIn K mainGlobals "_law_good" = some (some (.ref f18))) (l18 : K.lookup f18 = some ⟨oc18, od18, .func (PySem.W.fnOf "_law_good" "_law_good" (defArgs s_good) (defBody s_good) (defScope s_good) .none kV18 dc18 pm18 an18 cd18 ct18), sl18⟩) (c18 : PySem.W.codeIn K cd18 "_law_good" = true) (k18 : PySem.W.keepIn K (.ref f18) = true)
    (a19 : PySem.W.nsIn K mainGlobals "_law_copied" = some (some (.ref f19))) (l19 : K.lookup f19 = some ⟨oc19, od19, .func (PySem.W.fnOf "_law_copied" "_law_copied" (defArgs s_copied) (defBody s_copied) (defScope s_copied) .none kV19 dc19 pm19 an19 cd19 ct19), sl19⟩) (c19 : PySem.W.codeIn K cd19 "_law_copied" = true) (k19 : PySem.W.keepIn K (.ref f19) = true)
    (a20 : PySem.W.nsIn K mainGlobals "law" = some (some (.ref f20))) (l20 : K.lookup f20 = some ⟨oc20, od20, .func (PySem.W.fnOf "law" "law" (defArgs s_law) (defBody s_law) (defScope s_law) .none kV20 dc20 pm20 an20 cd20 ct20), sl20⟩) (c20 : PySem.W.codeIn K cd20 "law" = true) (k20 : PySem.W.keepIn K (.ref f20) = true)
    (dl : K.lookup dt = some ⟨.type "tuple", tod, .seq #[.int 1 t1] tn, tsl⟩)
    (z_isinstance : PySem.W.nsIn K mainGlobals "isinstance" = some none)
    (z_int : PySem.W.nsIn K mainGlobals "int" = some none)
    (z_bool : PySem.W.nsIn K mainGlobals "bool" = some none)
    (z_tuple : PySem.W.nsIn K mainGlobals "tuple" = some none)
    (z_len : PySem.W.nsIn K mainGlobals "len" = some none)
    (z_abs : PySem.W.nsIn K mainGlobals "abs" = some none)
    (z_list : PySem.W.nsIn K mainGlobals "list" = some none)
    (z_range : PySem.W.nsIn K mainGlobals "range" = some none)
    (z_enumerate : PySem.W.nsIn K mainGlobals "enumerate" = some none)
    (z_zip : PySem.W.nsIn K mainGlobals "zip" = some none)
    (x0 : PySem.W.nsIn K mainGlobals "BadFraction" = some (some (.ref CB)))
    (qb : PySem.W.excIn K CB veB "ValueError.__new__" = true) :
    ∃ fd : FuncData, (∀ (s : Shared) (v : Value), BindsTo s fd ⟨[v], []⟩ [("_law_script", v)]) ∧ ∀ base : Heap, K.In base → base.Ns mainGlobals mg → FnOk l.prog w K mg base CX0 6 fa fd ["_law_script"] (spLaw K) := by
  have e := hfa.symm.trans (PySem.W.mg_of X G a20)
  cases e
  have M := fun {x : Str} {v : Value} (q : PySem.W.nsIn K mainGlobals x = some (some v)) => PySem.W.mg_of X G q
  have Z := fun {x : Str} (q : PySem.W.nsIn K mainGlobals x = some none) => PySem.W.mg_none_of X G q
  have B : Blt mg := ⟨Z z_isinstance, Z z_int, Z z_bool, Z z_tuple, Z z_len, Z z_abs, Z z_list, Z z_range, Z z_enumerate, Z z_zip⟩
  have D1 : DefAt K mg "greatest_divisor" s_greatest_divisor f1 _ ["one", "other"] := ⟨fun_mk (st := s_greatest_divisor) l1 c1 k1, (fun_mk (st := s_greatest_divisor) l1 c1 k1).binds (ps := ["one", "other"]) fun _ _ _ _ _ _ us hl => match us, hl with | [_, _], _ => rfl, M a1⟩
  have D2 : DefD K mg "fraction" s_fraction (.ref dt) f2 _ ["top", "bottom"] [.int 1 t1] := ⟨funD_mk (st := s_fraction) l2 c2 k2, (fun s us KX hl => by
      obtain ⟨u, v, rfl⟩ : ∃ u v, us = [u, v] := by
        rcases us with _ | ⟨u, _ | ⟨v, _ | ⟨z, r⟩⟩⟩ <;> simp at hl
        exact ⟨u, v, rfl⟩
      exact BindsTo.of_defaults rfl (KX _ _ dl) rfl rfl rfl), (fun s us KX hl => by
      obtain ⟨u, rfl⟩ : ∃ u, us = [u] := by
        rcases us with _ | ⟨u, _ | ⟨v, r⟩⟩ <;> simp at hl
        exact ⟨u, rfl⟩
      exact BindsTo.of_defaults rfl (KX _ _ dl) rfl rfl rfl), .cons ⟨t1, rfl⟩ .nil, M a2⟩
  have D3 : DefAt K mg "pivoted" s_pivoted f3 _ ["tableau", "at", "column"] := ⟨fun_mk (st := s_pivoted) l3 c3 k3, (fun_mk (st := s_pivoted) l3 c3 k3).binds (ps := ["tableau", "at", "column"]) fun _ _ _ _ _ _ us hl => match us, hl with | [_, _, _], _ => rfl, M a3⟩
  have D4 : DefAt K mg "lowered" s_lowered f4 _ ["tableau", "part"] := ⟨fun_mk (st := s_lowered) l4 c4 k4, (fun_mk (st := s_lowered) l4 c4 k4).binds (ps := ["tableau", "part"]) fun _ _ _ _ _ _ us hl => match us, hl with | [_, _], _ => rfl, M a4⟩
  have D5 : DefAt K mg "value" s_value f5 _ ["tableau", "at", "column"] := ⟨fun_mk (st := s_value) l5 c5 k5, (fun_mk (st := s_value) l5 c5 k5).binds (ps := ["tableau", "at", "column"]) fun _ _ _ _ _ _ us hl => match us, hl with | [_, _, _], _ => rfl, M a5⟩
  have D6 : DefAt K mg "_law_at" s_lat f6 _ ["_law_script", "_law_k"] := ⟨fun_mk (st := s_lat) l6 c6 k6, (fun_mk (st := s_lat) l6 c6 k6).binds (ps := ["_law_script", "_law_k"]) fun _ _ _ _ _ _ us hl => match us, hl with | [_, _], _ => rfl, M a6⟩
  have D7 : DefAt K mg "_law_mixed" s_mixed f7 _ ["_law_cell", "_law_k"] := ⟨fun_mk (st := s_mixed) l7 c7 k7, (fun_mk (st := s_mixed) l7 c7 k7).binds (ps := ["_law_cell", "_law_k"]) fun _ _ _ _ _ _ us hl => match us, hl with | [_, _], _ => rfl, M a7⟩
  have D8 : DefAt K mg "_law_lowest" s_lowest f8 _ ["_law_top", "_law_bottom"] := ⟨fun_mk (st := s_lowest) l8 c8 k8, (fun_mk (st := s_lowest) l8 c8 k8).binds (ps := ["_law_top", "_law_bottom"]) fun _ _ _ _ _ _ us hl => match us, hl with | [_, _], _ => rfl, M a8⟩
  have D9 : DefAt K mg "_law_plus" s_lplus f9 _ ["_law_one", "_law_other"] := ⟨fun_mk (st := s_lplus) l9 c9 k9, (fun_mk (st := s_lplus) l9 c9 k9).binds (ps := ["_law_one", "_law_other"]) fun _ _ _ _ _ _ us hl => match us, hl with | [_, _], _ => rfl, M a9⟩
  have D10 : DefAt K mg "_law_times" s_ltimes f10 _ ["_law_one", "_law_other"] := ⟨fun_mk (st := s_ltimes) l10 c10 k10, (fun_mk (st := s_ltimes) l10 c10 k10).binds (ps := ["_law_one", "_law_other"]) fun _ _ _ _ _ _ us hl => match us, hl with | [_, _], _ => rfl, M a10⟩
  have D11 : DefAt K mg "_law_order" s_order f11 _ ["_law_one", "_law_other"] := ⟨fun_mk (st := s_order) l11 c11 k11, (fun_mk (st := s_order) l11 c11 k11).binds (ps := ["_law_one", "_law_other"]) fun _ _ _ _ _ _ us hl => match us, hl with | [_, _], _ => rfl, M a11⟩
  have D12 : DefAt K mg "_law_is_fraction" s_isf f12 _ ["_law_found"] := ⟨fun_mk (st := s_isf) l12 c12 k12, (fun_mk (st := s_isf) l12 c12 k12).binds (ps := ["_law_found"]) fun _ _ _ _ _ _ us hl => match us, hl with | [_], _ => rfl, M a12⟩
  have D13 : DefAt K mg "_law_same" s_same f13 _ ["_law_found", "_law_due_here"] := ⟨fun_mk (st := s_same) l13 c13 k13, (fun_mk (st := s_same) l13 c13 k13).binds (ps := ["_law_found", "_law_due_here"]) fun _ _ _ _ _ _ us hl => match us, hl with | [_, _], _ => rfl, M a13⟩
  have D14 : DefAt K mg "_law_number" s_number f14 _ ["_law_number_here"] := ⟨fun_mk (st := s_number) l14 c14 k14, (fun_mk (st := s_number) l14 c14 k14).binds (ps := ["_law_number_here"]) fun _ _ _ _ _ _ us hl => match us, hl with | [_], _ => rfl, M a14⟩
  have D15 : DefAt K mg "_law_table" s_table f15 _ ["_law_script"] := ⟨fun_mk (st := s_table) l15 c15 k15, (fun_mk (st := s_table) l15 c15 k15).binds (ps := ["_law_script"]) fun _ _ _ _ _ _ us hl => match us, hl with | [_], _ => rfl, M a15⟩
  have D16 : DefAt K mg "_law_place" s_place f16 _ ["_law_table_here", "_law_number_here"] := ⟨fun_mk (st := s_place) l16 c16 k16, (fun_mk (st := s_place) l16 c16 k16).binds (ps := ["_law_table_here", "_law_number_here"]) fun _ _ _ _ _ _ us hl => match us, hl with | [_, _], _ => rfl, M a16⟩
  have D17 : DefAt K mg "_law_due" s_due f17 _ ["_law_table_here", "_law_at_here", "_law_column"] := ⟨fun_mk (st := s_due) l17 c17 k17, (fun_mk (st := s_due) l17 c17 k17).binds (ps := ["_law_table_here", "_law_at_here", "_law_column"]) fun _ _ _ _ _ _ us hl => match us, hl with | [_, _, _], _ => rfl, M a17⟩
  have D18 : DefAt K mg "_law_good" s_good f18 _ ["_law_found", "_law_due_here"] := ⟨fun_mk (st := s_good) l18 c18 k18, (fun_mk (st := s_good) l18 c18 k18).binds (ps := ["_law_found", "_law_due_here"]) fun _ _ _ _ _ _ us hl => match us, hl with | [_, _], _ => rfl, M a18⟩
  have D19 : DefAt K mg "_law_copied" s_copied f19 _ ["_law_tableau"] := ⟨fun_mk (st := s_copied) l19 c19 k19, (fun_mk (st := s_copied) l19 c19 k19).binds (ps := ["_law_tableau"]) fun _ _ _ _ _ _ us hl => match us, hl with | [_], _ => rfl, M a19⟩
  exact ⟨_, fun s v => .of_eq rfl, fun base _ _ => ok_law (fun_mk (st := s_law) l20 c20 k20) B D2 D1 ⟨M x0, qb⟩ D6 D7 D14 D8 D12 D11 D13 D5 D10 D9 D4 D15 D16 D17 D18 D19 D3⟩
theorem walk {l : PySem.W.OpenLaw} {q : Program} {loose : List Str} {XP : (Str → Option Value) → Heap → Prop} {YP : World → Heap → Prop} {d : DefRec} {K : Params → PySem.W.Frag} (hn : l.most = some 63) (hdf : d.params.defaults = [])
    (hY : ∀ (w : World) (h : Heap), YP w h → (K w.params).In h)
    (F : ∀ (w : World) (mg : Str → Option Value) (fa : Addr) (h : Heap), (K w.params).In h → h.Ns mainGlobals mg → mg d.name = some (.ref fa) →
      ∃ fd : FuncData, (∀ (s : Shared) (u : Value), BindsTo s fd ⟨[u], []⟩ [("_law_script", u)]) ∧ ∀ base : Heap, (K w.params).In base → base.Ns mainGlobals mg → FnOk l.prog w (K w.params) mg base CX0 6 fa fd ["_law_script"] (spLaw (K w.params))) :
    PySem.W.WalkO q loose XP YP l.row.toRowW d [] (fun f vs => PySem.call f vs) :=
  L2.walk_ofB (n := 63) (k := 6) (x := "_law_script") (CX := fun _ => CX0) (sp := fun w => spLaw (K w.params)) hn (by decide) hdf ⟨rfl, by decide, by decide⟩ hY F (fun _ _ a ns hl few _ hS => ⟨a, ns, rfl, hS, hl, few, fun _ => rfl⟩) fun _ _ _ _ _ z => z
end Pw
open PySem PySem.W PyProof.Rows
set_option maxRecDepth 100000 in
set_option maxHeartbeats 0 in
theorem PySem.Challenge.cw_planwell_k18_tables_turned_holds : PySem.Challenge.rw_planwell_k18_tables_turned.Holds := by
  w_on; o_law; k_head; (case hw => w_witness2)
  k_fill
  refine Pw.walk (l := PySem.Challenge.rw_planwell_k18_tables_turned) rfl rfl (fun w h Y => PySem.W.kIn_of Y) ?F
  case F =>
    intro w mg fa h KX G hmg
    refine' Pw.all_mk KX G hmg ?a1 ?l1 ?c1 ?k1 ?a2 ?l2 ?c2 ?k2 ?a3 ?l3 ?c3 ?k3 ?a4 ?l4 ?c4 ?k4 ?a5 ?l5 ?c5 ?k5 ?a6 ?l6 ?c6 ?k6 ?a7 ?l7 ?c7 ?k7 ?a8 ?l8 ?c8 ?k8 ?a9 ?l9 ?c9 ?k9 ?a10 ?l10 ?c10 ?k10 ?a11 ?l11 ?c11 ?k11 ?a12 ?l12 ?c12 ?k12 ?a13 ?l13 ?c13 ?k13 ?a14 ?l14 ?c14 ?k14 ?a15 ?l15 ?c15 ?k15 ?a16 ?l16 ?c16 ?k16 ?a17 ?l17 ?c17 ?k17 ?a18 ?l18 ?c18 ?k18 ?a19 ?l19 ?c19 ?k19 ?a20 ?l20 ?c20 ?k20 ?dl ?z_isinstance ?z_int ?z_bool ?z_tuple ?z_len ?z_abs ?z_list ?z_range ?z_enumerate ?z_zip ?x0 ?qb
    (case a1 => k_is)
    (case l1 => k_is)
    (case c1 => k_is)
    (case k1 => k_is)
    (case a2 => k_is)
    (case l2 => k_is)
    (case c2 => k_is)
    (case k2 => k_is)
    (case a3 => k_is)
    (case l3 => k_is)
    (case c3 => k_is)
    (case k3 => k_is)
    (case a4 => k_is)
    (case l4 => k_is)
    (case c4 => k_is)
    (case k4 => k_is)
    (case a5 => k_is)
    (case l5 => k_is)
    (case c5 => k_is)
    (case k5 => k_is)
    (case a6 => k_is)
    (case l6 => k_is)
    (case c6 => k_is)
    (case k6 => k_is)
    (case a7 => k_is)
    (case l7 => k_is)
    (case c7 => k_is)
    (case k7 => k_is)
    (case a8 => k_is)
    (case l8 => k_is)
    (case c8 => k_is)
    (case k8 => k_is)
    (case a9 => k_is)
    (case l9 => k_is)
    (case c9 => k_is)
    (case k9 => k_is)
    (case a10 => k_is)
    (case l10 => k_is)
    (case c10 => k_is)
    (case k10 => k_is)
    (case a11 => k_is)
    (case l11 => k_is)
    (case c11 => k_is)
    (case k11 => k_is)
    (case a12 => k_is)
    (case l12 => k_is)
    (case c12 => k_is)
    (case k12 => k_is)
    (case a13 => k_is)
    (case l13 => k_is)
    (case c13 => k_is)
    (case k13 => k_is)
    (case a14 => k_is)
    (case l14 => k_is)
    (case c14 => k_is)
    (case k14 => k_is)
    (case a15 => k_is)
    (case l15 => k_is)
    (case c15 => k_is)
    (case k15 => k_is)
    (case a16 => k_is)
    (case l16 => k_is)
    (case c16 => k_is)
    (case k16 => k_is)
    (case a17 => k_is)
    (case l17 => k_is)
    (case c17 => k_is)
    (case k17 => k_is)
    (case a18 => k_is)
    (case l18 => k_is)
    (case c18 => k_is)
    (case k18 => k_is)
    (case a19 => k_is)
    (case l19 => k_is)
    (case c19 => k_is)
    (case k19 => k_is)
    (case a20 => k_is)
    (case l20 => k_is)
    (case c20 => k_is)
    (case k20 => k_is)
    (case dl => k_is)
    (case z_isinstance => k_is)
    (case z_int => k_is)
    (case z_bool => k_is)
    (case z_tuple => k_is)
    (case z_len => k_is)
    (case z_abs => k_is)
    (case z_list => k_is)
    (case z_range => k_is)
    (case z_enumerate => k_is)
    (case z_zip => k_is)
    (case x0 => k_is)
    (case qb => k_exc)
#print axioms PySem.Challenge.cw_planwell_k18_tables_turned_holds


