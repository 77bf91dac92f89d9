import PyProof.Rows.All
import Wide.All
import OpenK.AllK
import Wide.FinOn
import Lean
import PyProof.EqAt
import PyProof.EqKinds
import PyProof.TupleCall
import PySem.Challenge.RW_planwell_k27_answers_in_rows
-- CHANGE: your row's module here, as the last of these rows
set_option Elab.async false
set_option linter.all false
set_option maxRecDepth 100000
namespace L2
open PySem PySem.Spec PyProof.Rows

abbrev Key := Sum Int Str
def keyIs : Key → Value → Bool
  | .inl k, v => Value.isInt k v
  | .inr x, v => Value.isStrOf x v
def keyH (w : World) : Key → Int
  | .inl k => hashInt k
  | .inr x => hashStr w x
theorem keyIs_shape : ∀ {k : Key} {v : Value}, keyIs k v = true → (∃ i t, k = Sum.inl i ∧ v = Value.int i t) ∨ (∃ x t, k = Sum.inr x ∧ v = Value.str x t)
  | .inl i, v, h => by
    obtain ⟨t, e⟩ := Value.isInt_shape (k := i) (v := v) h
    exact .inl ⟨i, t, rfl, e⟩
  | .inr x, v, h => by
    obtain ⟨t, e⟩ := Value.isStrOf_shape (x := x) (v := v) h
    exact .inr ⟨x, t, rfl, e⟩
theorem key_ll (a b : Int) : decide ((Sum.inl a : Key) = Sum.inl b) = (a == b) := by
  by_cases e : a = b
  · subst e; simp
  · have h : ¬ (Sum.inl a : Key) = Sum.inl b := fun q => e (Sum.inl.inj q)
    rw [decide_eq_false h]
    exact (beq_eq_false_iff_ne.mpr e).symm
theorem key_rr (a b : Str) : decide ((Sum.inr a : Key) = Sum.inr b) = decide (a = b) := by
  by_cases e : a = b
  · subst e; simp
  · have h : ¬ (Sum.inr a : Key) = Sum.inr b := fun q => e (Sum.inr.inj q)
    rw [decide_eq_false h, decide_eq_false e]
theorem key_lr (a : Int) (b : Str) : decide ((Sum.inl a : Key) = Sum.inr b) = false := decide_eq_false (fun q => nomatch q)
theorem key_rl (a : Str) (b : Int) : decide ((Sum.inr a : Key) = Sum.inl b) = false := decide_eq_false (fun q => nomatch q)

def mixKind (prog : Program) (w : World) : PySem.KeyKind prog w Key where
  is := keyIs
  hash := keyH w
  inj := fun v a b ha hb => by
    rcases keyIs_shape ha with ⟨i, t, rfl, rfl⟩ | ⟨x, t, rfl, rfl⟩
    · rcases keyIs_shape hb with ⟨j, u, rfl, e⟩ | ⟨y, u, rfl, e⟩
      · injection e with e1 _; rw [e1]
      · exact nomatch e
    · rcases keyIs_shape hb with ⟨j, u, rfl, e⟩ | ⟨y, u, rfl, e⟩
      · exact nomatch e
      · injection e with e1 _; rw [e1]
  byValue := fun k v h => by
    rcases keyIs_shape h with ⟨i, t, rfl, rfl⟩ | ⟨x, t, rfl, rfl⟩ <;> rfl
  pyHash := fun hv h => by
    rcases keyIs_shape hv with ⟨i, t, rfl, rfl⟩ | ⟨x, t, rfl, rfl⟩
    · exact wpAny_pyHash_int h
    · exact wpAny_pyHash_str h
  eqBool := fun hu hv h => by
    rcases keyIs_shape hu with ⟨i, t, rfl, rfl⟩ | ⟨x, t, rfl, rfl⟩
    · rcases keyIs_shape hv with ⟨j, u, rfl, rfl⟩ | ⟨y, u, rfl, rfl⟩
      · rw [key_ll] at h; exact wpAny_eqBool_int h
      · rw [key_lr] at h; exact SeqAt.EqAt.int_str i t y u _ _ _ _ h
    · rcases keyIs_shape hv with ⟨j, u, rfl, rfl⟩ | ⟨y, u, rfl, rfl⟩
      · rw [key_rl] at h; exact SeqAt.EqAt.str_int x t j u _ _ _ _ h
      · rw [key_rr] at h; exact wpAny_eqBool_str h
  «strs» := fun k x t v h => by
    rcases keyIs_shape h with ⟨i, u, rfl, e⟩ | ⟨y, u, rfl, e⟩
    · exact nomatch e
    · injection e with e1 _
      subst e1
      cases v <;> rfl

end L2

namespace L2
open PySem PySem.Spec PyProof.Rows

inductive V where
  | non | bl (b : Bool) | int (i : Int) | str (x : Str) | byt (b : Array UInt8) | flt (b : UInt64) | ref (a : Addr) | ty (n : String)
  deriving DecidableEq

def RelV : V → Value → Prop
  | .non, u => u = Value.none
  | .bl b, u => u = Value.bool b
  | .int i, u => ∃ t, u = Value.int i t
  | .str x, u => ∃ t, u = Value.str x t
  | .byt b, u => ∃ t, u = Value.bytes b t
  | .flt b, u => ∃ t, u = Value.float b t
  | .ref a, u => u = Value.ref a
  | .ty n, u => u = Value.type n

abbrev Vals : List V → List Value → Prop := Paired RelV
theorem Vals.length {xs : List V} {us : List Value} (r : Vals xs us) : xs.length = us.length := Paired.length r
theorem Vals.get : ∀ {xs : List V} {us : List Value} {i : Nat} {x : V}, Vals xs us → xs[i]? = some x → ∃ u, us[i]? = some u ∧ RelV x u
  | _, _, _, _, .nil, e => by simp at e
  | _, _, 0, _, .cons r _, e => by simp at e; subst e; exact ⟨_, rfl, r⟩
  | _, _, i + 1, x, .cons _ t, e => by
    obtain ⟨u, h1, h2⟩ := Vals.get (i := i) (x := x) t (by simpa using e)
    exact ⟨u, by simpa using h1, h2⟩
theorem Vals.set {x : V} {u : Value} (r : RelV x u) : ∀ {xs : List V} {us : List Value} (i : Nat), Vals xs us → Vals (xs.set i x) (us.set i u)
  | _, _, _, .nil => .nil
  | _, _, 0, .cons _ t => .cons r t
  | _, _, i + 1, .cons q t => .cons q (Vals.set r i t)
theorem Vals.append : ∀ {xs ys : List V} {us ws : List Value}, Vals xs us → Vals ys ws → Vals (xs ++ ys) (us ++ ws)
  | _, _, _, _, .nil, s => s
  | _, _, _, _, .cons r t, s => .cons r (Vals.append t s)
def RelO : Option V → Option Value → Prop
  | some v, some u => RelV v u
  | none, none => True
  | _, _ => False
def KV {κ : Type} : List (κ × V) → List (κ × Value) → Prop := Paired fun (p : κ × V) (q : κ × Value) => p.1 = q.1 ∧ RelV p.2 q.2

def kV : Key → V
  | .inl i => .int i
  | .inr x => .str x

def IsTupN (h : Heap) (a : Addr) (items : Array Value) : Prop := ∃ o, h.get? a = some o ∧ (o.cls = .type "tuple" ∧ o.dict = none) ∧ ∃ n, o.data = .seq items n
theorem IsTupN.tup {h : Heap} {a : Addr} {items : Array Value} (x : IsTupN h a items) : IsTup h a items := let ⟨o, e, c, r⟩ := x; ⟨o, e, c.1, r⟩
theorem IsTupN.lt {h : Heap} {a : Addr} {items : Array Value} (x : IsTupN h a items) : a < h.objs.size := x.tup.lt
theorem IsTupN.new (h : Heap) (items : Array Value) : IsTupN (h.push { cls := .type "tuple", data := .seq items }) h.objs.size items := ⟨_, Heap.get?_push_size _ rfl, ⟨rfl, rfl⟩, _, rfl⟩
inductive HO where
  /-- a list -/
  | lst (xs : List V)
  /-- a tuple (never changes) -/
  | tup (xs : List V)
  /-- a dict whose keys are ints and texts; one whose keys are tuples of ints and texts (the empty one is both) -/
  | dK (kvs : List (Key × V)) | dT (kvs : List (List Key × V))
  /-- a set of ints: its members, its size -/
  | set (S : Int → Bool) (n : Nat)
  /-- an instance of the class at C, its dict at dx, its attributes -/
  | ins (C dx : Addr) (fs : List (Str × V))
  /-- the dict of the instance at x -/
  | own (x : Addr)
  /-- the dict of an exception -/
  | xd (fs : List (Str × V))
  /-- a bound method, f of x -/
  | met (f x : Addr)
  /-- a range object lo, lo + 1, .. below hi -/
  | rng (lo hi : Int)
  /-- a thing that is known to the object (the script; a dict while a loop walks it): read, never written while it is so -/
  | frz (o : Obj) (u : HO)
  /-- a code object's table -/
  | tbl (ps : Array Value)
  /-- any other thing, by what is true of its one object (a def of one's own: SetO a S n := HO.ext fun h => ..) -/
  | ext (φ : Heap → Prop)

abbrev Hp := Addr → Option HO
def upd (H : Hp) (a : Addr) (o : HO) : Hp := fun b => if b = a then some o else H b
theorem upd_same {H : Hp} {a : Addr} {o : HO} : upd H a o a = some o := by unfold upd; rw [if_pos rfl]
theorem upd_ne {H : Hp} {a b : Addr} {o : HO} (h : b ≠ a) : upd H a o b = H b := by unfold upd; rw [if_neg h]
theorem ne_of {H : Hp} {a b : Addr} {o u : HO} (h : H a = some o) (h' : H b = some u) (d : o ≠ u) : a ≠ b := by
  intro e; subst e; rw [h] at h'; exact d (Option.some.inj h')
theorem ne_of_none {H : Hp} {a b : Addr} {o : HO} (h : H a = some o) (h' : H b = none) : a ≠ b := by
  intro e; subst e; rw [h] at h'; cases h'

section
variable (P : Program) (w : World)
def ObjOk (H : Hp) (h : Heap) (a : Addr) : HO → Prop
  | .lst xs => xs.length ≤ sizeLine ∧ ∃ (its : List Value) (n : Nat), Vals xs its ∧ h.get? a = some { cls := .type "list", data := .seq its.toArray n }
  | .tup xs => xs.length ≤ sizeLine ∧ ∃ its : List Value, Vals xs its ∧ IsTupN h a its.toArray
  | .dK kvs => kvs.length ≤ sizeLine ∧ (a == sysModules) = false ∧ ∃ vs, KV kvs vs ∧ h.DictOf (mixKind P w) a vs
  | .dT kvs => kvs.length ≤ sizeLine ∧ (a == sysModules) = false ∧ ∃ xs : List (List Key × Addr × Value),
      Paired (fun (p : List Key × V) (q : List Key × Addr × Value) => p.1 = q.1 ∧ H q.2.1 = some (.tup (p.1.map kV)) ∧ RelV p.2 q.2.2) kvs xs ∧
      ∃ o es ep, h.get? a = some o ∧ o.ExactDict ∧ o.data = .dict es ep ∧ es.toList = xs.map (entryOfKey (tupleKind (mixKind P w))) ∧ (xs.map (·.1)).Nodup
  | .set S n => h.SetOf (intKind P w) a S n
  | .ins C dx fs => H dx = some (.own a) ∧ fs.length ≤ 1000 ∧ dx ≠ a ∧ h.get? a = some (PySem.W.instObj C dx) ∧
      ∃ mA, h.Ns1 dx mA ∧ (∀ f, RelO (fs.lookup f) (mA f)) ∧ PySem.Within mA (fs.map (·.1))
  | .own _ => ∃ o, h.get? a = some o
  | .xd fs => ∃ mA, h.Ns1 a mA ∧ ∀ f, RelO (fs.lookup f) (mA f)
  | .rng lo hi => ∃ t u v, h.get? a = some { cls := .type "range", data := .fields #[.int lo t, .int hi u, .int 1 v] }
  | .frz o u => h.get? a = some o ∧ ObjOk H h a u
  | .tbl ps => h.get? a = some { cls := .none, data := .fields ps }
  | .met f x => h.get? a = some (PySem.W.methodObj (.ref f) (.ref x))
  | .ext φ => φ h ∧ (∃ o, h.get? a = some o) ∧ ∀ h1 h2 : Heap, φ h1 → (∀ o, h1.get? a = some o → h2.get? a = some o) → φ h2
def HOk (H : Hp) (h : Heap) : Prop := ∀ a o, H a = some o → ObjOk P w H h a o
end

section
variable {P : Program} {w : World} {H H' : Hp} {h h' : Heap} {a : Addr} {o : HO}
theorem ObjOk.lt (x : ObjOk P w H h a o) : a < h.objs.size := by
  cases o with
  | lst xs => obtain ⟨_, _, _, _, e⟩ := x; exact Heap.lt_size e
  | tup xs => obtain ⟨_, _, _, p⟩ := x; exact p.lt
  | dK kvs => obtain ⟨_, _, _, _, o, _, _, e, _⟩ := x; exact Heap.lt_size e
  | dT kvs => obtain ⟨_, _, _, _, o, _, _, e, _⟩ := x; exact Heap.lt_size e
  | set S n => obtain ⟨o, _, _, _, e, _⟩ := x; exact Heap.lt_size e
  | ins C dx fs => obtain ⟨_, _, _, e, _⟩ := x; exact Heap.lt_size e
  | own y => obtain ⟨_, e⟩ := x; exact Heap.lt_size e
  | xd fs => obtain ⟨_, ⟨_, _, _, e, _⟩, _⟩ := x; exact Heap.lt_size e
  | rng lo hi => obtain ⟨_, _, _, e⟩ := x; exact Heap.lt_size e
  | frz ob u => obtain ⟨e, _⟩ := x; exact Heap.lt_size e
  | tbl ps => exact Heap.lt_size (show h.get? a = some _ from x)
  | met f y => exact Heap.lt_size (show h.get? a = some _ from x)
  | ext φ => obtain ⟨_, ⟨_, e⟩, _⟩ := x; exact Heap.lt_size e
theorem Paired.mapP {α β : Type} {F G : α → β → Prop} : ∀ {l₁ : List α} {l₂ : List β}, Paired F l₁ l₂ → (∀ a b, F a b → G a b) → Paired G l₁ l₂
  | _, _, .nil, _ => .nil
  | _, _, .cons r t, f => .cons (f _ _ r) (Paired.mapP t f)
theorem ObjOk.stay (x : ObjOk P w H h a o) (k : ∀ b u, (b = a ∨ H b = some (.own a)) → h.get? b = some u → h'.get? b = some u)
    (ho : ∀ b, H b = some (.own a) → H' b = some (.own a)) (ht : ∀ b xs, H b = some (.tup xs) → H' b = some (.tup xs)) : ObjOk P w H' h' a o := by
  induction o with
  | lst xs => obtain ⟨z, its, n, r, e⟩ := x; exact ⟨z, its, n, r, k _ _ (.inl rfl) e⟩
  | tup xs => obtain ⟨z, its, r, ob, e, c⟩ := x; exact ⟨z, its, r, ob, k _ _ (.inl rfl) e, c⟩
  | dK kvs => obtain ⟨z, y, vs, r, ob, es, ep, e, c⟩ := x; exact ⟨z, y, vs, r, ob, es, ep, k _ _ (.inl rfl) e, c⟩
  | dT kvs =>
    obtain ⟨z, y, xs, r, ob, es, ep, e, c⟩ := x
    exact ⟨z, y, xs, Paired.mapP r fun p q z => ⟨z.1, ht _ _ z.2.1, z.2.2⟩, ob, es, ep, k _ _ (.inl rfl) e, c⟩
  | set S n => obtain ⟨ob, es, ep, t, e, c⟩ := x; exact ⟨ob, es, ep, t, k _ _ (.inl rfl) e, c⟩
  | ins C dx fs =>
    obtain ⟨d, z, ne, e, mA, ⟨od, es, ep, e2, c⟩, r⟩ := x
    exact ⟨ho _ d, z, ne, k _ _ (.inl rfl) e, mA, ⟨od, es, ep, k _ _ (.inr d) e2, c⟩, r⟩
  | own y => obtain ⟨ob, e⟩ := x; exact ⟨ob, k _ _ (.inl rfl) e⟩
  | xd fs => obtain ⟨mA, ⟨od, es, ep, e, c⟩, r⟩ := x; exact ⟨mA, ⟨od, es, ep, k _ _ (.inl rfl) e, c⟩, r⟩
  | rng lo hi => obtain ⟨t, u, v, e⟩ := x; exact ⟨t, u, v, k _ _ (.inl rfl) e⟩
  | frz ob u ih => obtain ⟨e, q⟩ := x; exact ⟨k _ _ (.inl rfl) e, ih q⟩
  | tbl ps =>
    have e : h.get? a = some { cls := .none, data := .fields ps } := x
    show h'.get? a = some { cls := .none, data := .fields ps }
    exact k a _ (.inl rfl) e
  | met f y =>
    have e : h.get? a = some (PySem.W.methodObj (.ref f) (.ref y)) := x
    show h'.get? a = some (PySem.W.methodObj (.ref f) (.ref y))
    exact k a _ (.inl rfl) e
  | ext φ => obtain ⟨p, ⟨o, e⟩, st⟩ := x; exact ⟨st _ _ p fun o q => k _ _ (.inl rfl) q, ⟨o, k _ _ (.inl rfl) e⟩, st⟩
theorem HOk.lt (x : HOk P w H h) (e : H a = some o) : a < h.objs.size := (x a o e).lt
theorem HOk.fresh (x : HOk P w H h) (e : h.objs.size ≤ a) : H a = none := by
  cases q : H a with
  | none => rfl
  | some u => exact absurd (Nat.lt_of_lt_of_le (x.lt q) e) (Nat.lt_irrefl _)
theorem HOk.kept (x : HOk P w H h) (k : ∀ b u, h.get? b = some u → h'.get? b = some u) : HOk P w H h' := fun a o e =>
  (x a o e).stay (fun b u _ q => k b u q) (fun _ q => q) fun _ _ q => q
theorem HOk.laid (x : HOk P w H h) (k : ∀ b u, h.get? b = some u → h'.get? b = some u) (hp : h.objs.size ≤ a) (new : ObjOk P w (upd H a o) h' a o) : HOk P w (upd H a o) h' := fun b u e => by
  have hn := x.fresh hp
  by_cases hb : b = a
  · subst hb; rw [upd_same] at e; cases e; exact new
  · rw [upd_ne hb] at e
    exact (x b u e).stay (fun c v _ q => k c v q) (fun c q => by rw [upd_ne (ne_of_none q hn)]; exact q) fun c xs q => by rw [upd_ne (ne_of_none q hn)]; exact q
end

def Rd (H : Hp) (a : Addr) (u : HO) : Prop := H a = some u ∨ ∃ o, H a = some (.frz o u)
theorem Rd.ok {P : Program} {w : World} {H : Hp} {h : Heap} {a : Addr} {u : HO} (r : Rd H a u) (x : HOk P w H h) : ObjOk P w H h a u := by
  rcases r with r | ⟨o, r⟩
  · exact x a u r
  · obtain ⟨_, q⟩ := x a _ r
    exact q
def Mut : Option HO → Prop
  | some (.lst _) => True
  | some (.dK _) => True
  | some (.dT _) => True
  | some (.set _ _) => True
  | some (.ins _ _ _) => True
  | some (.ext _) => True
  | _ => False
section
variable {P : Program} {w : World} {H : Hp} {h h' : Heap} {x e : Addr} {o' : HO}
theorem HOk.write (ok : HOk P w H h) (mu : Mut (H x)) (he : e = x ∨ H e = some (.own x)) (k : ∀ b u, b ≠ e → h.get? b = some u → h'.get? b = some u) (heo : ∃ u, h'.get? e = some u)
    (new : ObjOk P w (upd H x o') h' x o') : HOk P w (upd H x o') h' := fun b u q => by
  have nown : ∀ c y, H c = some (.own y) → c ≠ x := fun c y r z => by subst z; rw [r] at mu; exact mu
  have ntup : ∀ c xs, H c = some (.tup xs) → c ≠ x := fun c xs r z => by subst z; rw [r] at mu; exact mu
  by_cases hb : b = x
  · subst hb; rw [upd_same] at q; cases q; exact new
  · rw [upd_ne hb] at q
    by_cases hbe : b = e
    · have q' : H b = some (.own x) := by
        rcases he with z | z
        · exact absurd (hbe.trans z) hb
        · rw [hbe]; exact z
      rw [q] at q'; cases q'
      obtain ⟨v, hv⟩ := heo
      exact ⟨v, by rw [hbe]; exact hv⟩
    · refine (ok b u q).stay (fun c v hc r => k c v ?_ r) (fun c r => by rw [upd_ne (nown c b r)]; exact r) fun c xs r => by rw [upd_ne (ntup c xs r)]; exact r
      rcases hc with rfl | hc
      · exact hbe
      · rintro rfl
        rcases he with z | z
        · exact nown c b hc z
        · rw [hc] at z; cases z; exact hb rfl
end

structure Un (fs ex : List Addr) (H H' : Hp) (h h' : Heap) : Prop where
  keep : ∀ b o, h.get? b = some o → H b = none → b ∉ fs → b ∉ ex → h'.get? b = some o
  slot : ∀ b o, h.get? b = some o → H b = none → b ∈ fs → b ∉ ex → ∃ sl, h'.get? b = some { o with slots := sl }
  free : ∀ b o, h.get? b = some o → H b = none → b ∉ ex → H' b = none
  there : ∀ b o, h.get? b = some o → b ∉ ex → ∃ o', h'.get? b = some o'
  tups : ∀ b xs, H b = some (.tup xs) → H' b = some (.tup xs)
  frzs : ∀ b o u, H b = some (.frz o u) → H' b = some (.frz o u)
  tbls : ∀ b ps, H b = some (.tbl ps) → ∃ more, H' b = some (.tbl (ps ++ more))
section
variable {fs fs' ex ex' : List Addr} {H H1 H2 : Hp} {h h1 h2 h' : Heap} {a x e : Addr} {o : HO}
theorem Un.any (u : Un fs ex H H1 h h1) {b : Addr} {ob : Obj} (q : h.get? b = some ob) (n : H b = none) (hx : b ∉ ex) : ∃ sl, h1.get? b = some { ob with slots := sl } := by
  by_cases hb : b ∈ fs
  · exact u.slot b ob q n hb hx
  · exact ⟨ob.slots, u.keep b ob q n hb hx⟩
theorem Un.kept (k : ∀ b u, h.get? b = some u → h'.get? b = some u) : Un fs ex H H h h' :=
  ⟨fun b ob q _ _ _ => k b ob q, fun b ob q _ _ _ => ⟨ob.slots, k b ob q⟩, fun _ _ _ n _ => n, fun b ob q _ => ⟨ob, k b ob q⟩, fun _ _ q => q, fun _ _ _ q => q, fun _ ps q => ⟨#[], by rw [q]; simp⟩⟩
theorem Un.refl : Un fs ex H H h h := Un.kept fun _ _ q => q
theorem Un.laid (k : ∀ b u, h.get? b = some u → h'.get? b = some u) (hp : h.objs.size ≤ a) (hn : H a = none) : Un fs ex H (upd H a o) h h' where
  keep := fun b u q _ _ _ => k b u q
  slot := fun b u q _ _ _ => ⟨u.slots, k b u q⟩
  free := fun b u q n _ => by rw [upd_ne (Nat.ne_of_lt (Nat.lt_of_lt_of_le (Heap.lt_size q) hp))]; exact n
  there := fun b u q _ => ⟨u, k b u q⟩
  tups := fun b xs q => by rw [upd_ne (ne_of_none q hn)]; exact q
  frzs := fun b u xs q => by rw [upd_ne (ne_of_none q hn)]; exact q
  tbls := fun b ps q => ⟨#[], by rw [upd_ne (ne_of_none q hn), q]; simp⟩
theorem Un.write (mu : Mut (H x)) (he : e = x ∨ H e = some (.own x)) (k : ∀ b u, b ≠ e → h.get? b = some u → h'.get? b = some u) (heo : ∃ u, h'.get? e = some u) : Un fs ex H (upd H x o) h h' := by
  have hx : ∀ b, H b = none → b ≠ x := fun b n z => by subst z; rw [n] at mu; exact mu
  have hb : ∀ b, H b = none → b ≠ e := fun b n z => by
    subst z
    rcases he with r | r
    · exact hx b n r
    · rw [n] at r; cases r
  have hm : ∀ b u, H b = some u → ¬ Mut (some u) → b ≠ x := fun b u q nm z => by subst z; rw [q] at mu; exact nm mu
  refine ⟨fun b u q n _ _ => k b u (hb b n) q, fun b u q n _ _ => ⟨u.slots, k b u (hb b n) q⟩, fun b u q n _ => by rw [upd_ne (hx b n)]; exact n, fun b u q _ => ?_,
    fun b xs q => by rw [upd_ne (hm b _ q fun z => z)]; exact q, fun b u xs q => by rw [upd_ne (hm b _ q fun z => z)]; exact q, fun b ps q => ⟨#[], by rw [upd_ne (hm b _ q fun z => z), q]; simp⟩⟩
  by_cases hbe : b = e
  · subst hbe; exact heo
  · exact ⟨u, k b u hbe q⟩
end

def trk (h : Heap) (H : Hp) : List Addr := (List.range h.objs.size).filter fun a => (H a).isSome
def hidT (h : Heap) (H : Hp) : Heap := PySem.W.hideAll h (trk h H)
theorem hidT_size (h : Heap) (H : Hp) : (hidT h H).objs.size = h.objs.size := PySem.W.hideAll_size _ _
theorem hidT_get {h : Heap} {H : Hp} {b : Addr} {o : Obj} (e : h.get? b = some o) (n : H b = none) : (hidT h H).get? b = some o :=
  PySem.W.hideAll_get _ e fun hm => by
    have q : (H b).isSome = true := (List.mem_filter.mp hm).2
    rw [n] at q; simp at q
theorem of_hidT {h : Heap} {H : Hp} {b : Addr} {o : Obj} (e : (hidT h H).get? b = some o) : h.get? b = some o ∧ H b = none := by
  have e' : h.get? b = some o := PySem.W.of_hideAll (trk h H) e
  refine ⟨e', ?_⟩
  cases q : H b with
  | none => rfl
  | some x =>
    have hm : b ∈ trk h H := List.mem_filter.mpr ⟨List.mem_range.mpr (Heap.lt_size e'), by simp [q]⟩
    have z : (hidT h H).get? b = none := PySem.W.hideAll_none (trk h H) hm
    rw [z] at e; cases e

end L2

namespace L2
open PySem PySem.Spec PyProof.Rows

structure Mod (K : PySem.W.Frag) (mg : Str → Option Value) (base : Heap) : Prop where
  kin : K.In base
  glob : base.Ns mainGlobals mg
  blt : ∃ mb, base.Ns builtinsNs mb ∧ ∀ x : Str, x ≠ "__name__" → mb x = bootBuiltins x
  nolimit : base.NoLimit

structure Cx where
  prog : Program
  w : World
  K : PySem.W.Frag
  mg : Str → Option Value
  base : Heap
  A : Around
  N : List Str
  s₀ : Shared
  H₀ : Hp
  env : Env
  outer : List Env
  stack : List Env
  ex : List Addr
  fn : Str → Bool
  calm : Bool
  pn : List (Addr × Obj)
  xe : Value → Shared → Prop
def frs (l : List Env) : List Addr := l.filterMap (·.frame)
abbrev Cx.fs (X : Cx) : List Addr := frs X.outer

def Vis (sc : Scope) (x : Str) : Prop := sc.names.lookup x = some .local ∨ sc.names.lookup x = some .cell ∨ sc.names.lookup x = some .free
def Loc (sc : Scope) (x : Str) : Prop := sc.names.lookup x = some .local ∨ sc.names.lookup x = some .cell
def Look (env : Env) (h : Heap) (m : Str → Option Value) (x : Str) (u : Value) : Prop :=
  (env.kindOf x = some .local ∧ m x = some u) ∨ ((env.kindOf x = some .cell ∨ env.kindOf x = some .free) ∧ ∃ c, env.cells.lookup x = some c ∧ h.IsCell c (some u))

structure Cx.Ok (X : Cx) : Prop where
  mod : Mod X.K X.mg X.base
  kind : X.env.scope.kind = .function
  glob : X.env.globals = mainGlobals
  blt : X.env.builtins = builtinsNs
  above : X.s₀.heap.objs.size ≤ X.env.locals
  inj : ∀ x y c, X.env.cells.lookup x = some c → X.env.cells.lookup y = some c → x = y
  has : ∀ x, (X.env.kindOf x = some .cell ∨ X.env.kindOf x = some .free) → ∃ c, X.env.cells.lookup x = some c
  cab : ∀ x c, X.fn x = true → X.env.cells.lookup x = some c → X.s₀.heap.objs.size ≤ c
  hd : X.calm = true → X.A.handled = none
  frames : X.A.frames = some X.stack
  stk : X.stack = X.outer ∨ (X.stack = X.env :: X.outer ∧ X.env.frame = some X.env.locals)
  exf : ∀ b ∈ X.ex, b ≠ X.env.locals ∧ ∀ x c, X.env.cells.lookup x = some c → c ≠ b
  bs : ∀ b o, X.base.get? b = some o → X.s₀.heap.get? b = some o ∧ X.H₀ b = none
  bsz : X.base.objs.size ≤ X.s₀.heap.objs.size
  noex : ∀ b o, X.base.get? b = some o → b ∉ X.ex
  exfs : ∀ b ∈ X.ex, b ∉ X.fs
  funs : X.s₀.heap.FunFrames X.base X.outer
  frf : ∀ b ∈ X.fs, X.H₀ b = none

structure Inv (X : Cx) (pins : List (Addr × Obj)) (σ : List (Option V)) (H : Hp) (s : Shared) : Prop where
  ok : X.Ok
  os : s.os = X.s₀.os
  bare : AllBare s.gens
  base : Un X.fs X.ex X.H₀ H X.s₀.heap s.heap
  loc : ∃ m, s.heap.Ns X.env.locals m ∧ ∀ (i : Nat) (x : Str) (v : V), X.N[i]? = some x → σ[i]? = some (some v) → Vis X.env.scope x → ∃ u, RelV v u ∧ Look X.env s.heap m x u
  cell : ∀ x c, X.env.cells.lookup x = some c → ∃ v, s.heap.IsCell c v
  free : H X.env.locals = none
  freeC : ∀ x c, X.env.cells.lookup x = some c → H c = none
  pin : ∀ p ∈ X.pn ++ pins, s.heap.get? p.1 = some p.2 ∧ H p.1 = none ∧ p.1 ≠ X.env.locals ∧ p.1 ∉ X.fs ∧ ∀ v, p.2.data ≠ .cell v
  hok : HOk X.prog X.w H s.heap
  len : σ.length = X.N.length

section
variable {X : Cx} {pins : List (Addr × Obj)} {σ : List (Option V)} {H H' : Hp} {s : Shared} {h' : Heap}

theorem Cx.Ok.nofr (ok : X.Ok) {b : Addr} {o : Obj} (e : X.base.get? b = some o) : b ∉ X.fs := fun hb => by
  have := (ok.funs.mem hb).1
  rw [e] at this; cases this
theorem Inv.bs (I : Inv X pins σ H s) : ∀ b o, X.base.get? b = some o → s.heap.get? b = some o ∧ H b = none := fun b o e =>
  ⟨I.base.keep b o (I.ok.bs b o e).1 (I.ok.bs b o e).2 (I.ok.nofr e) (I.ok.noex b o e), I.base.free b o (I.ok.bs b o e).1 (I.ok.bs b o e).2 (I.ok.noex b o e)⟩
theorem Inv.bk (I : Inv X pins σ H s) : ∀ b o, X.base.get? b = some o → s.heap.get? b = some o := fun b o e => (I.bs b o e).1
theorem Inv.mod (I : Inv X pins σ H s) : Mod X.K X.mg X.base := I.ok.mod
theorem Inv.kIn (I : Inv X pins σ H s) : X.K.In s.heap := I.ok.mod.kin.keeps I.bk
theorem Inv.lt (I : Inv X pins σ H s) : X.env.locals < s.heap.objs.size := let ⟨_, hn, _⟩ := I.loc; hn.lt
theorem Inv.sz (I : Inv X pins σ H s) : X.s₀.heap.objs.size ≤ s.heap.objs.size := Nat.le_trans I.ok.above (Nat.le_of_lt I.lt)
theorem Inv.nofs (I : Inv X pins σ H s) {a : Addr} (h : s.heap.objs.size ≤ a) : a ∉ X.fs := fun hb => by
  obtain ⟨_, o, ho, _⟩ := I.ok.funs.mem hb
  exact absurd (Nat.lt_of_lt_of_le (Heap.lt_size ho) (Nat.le_trans I.sz h)) (Nat.lt_irrefl _)
theorem Inv.cne (I : Inv X pins σ H s) : ∀ x c, X.env.cells.lookup x = some c → c ≠ X.env.locals := fun x c e z => by
  obtain ⟨v, o, ho, hd⟩ := I.cell x c e
  obtain ⟨m, ⟨o', es, ep, ho', hd', _⟩, _⟩ := I.loc
  rw [z, ho'] at ho; cases ho; rw [hd'] at hd; cases hd
theorem Inv.funs (I : Inv X pins σ H s) : s.heap.FunFrames X.base X.outer := by
  have all : ∀ (l : List Env), (∀ b ∈ frs l, b ∈ X.fs) → X.s₀.heap.FunFrames X.base l → s.heap.FunFrames X.base l := by
    intro l
    induction l with
    | nil => intro _ _; trivial
    | cons env r ih =>
      intro hs hl
      obtain ⟨hk, ⟨L, o, hf, hn, ho, hd⟩, hr⟩ := hl
      have hL : L ∈ X.fs := hs L (by unfold frs; rw [List.filterMap_cons, hf]; exact List.mem_cons_self)
      obtain ⟨sl, e⟩ := I.base.slot L o ho (I.ok.frf L hL) hL fun z => I.ok.exfs L z hL
      exact ⟨hk, ⟨L, _, hf, hn, e, hd⟩, ih (fun b hb => hs b (by unfold frs; rw [List.filterMap_cons, hf]; exact List.mem_cons_of_mem _ hb)) hr⟩
  exact all X.outer (fun _ hb => hb) I.ok.funs

theorem Inv.stack (I : Inv X pins σ H s) : s.heap.FunFrames X.base X.stack := by
  rcases I.ok.stk with e | ⟨e, hf⟩
  · rw [e]; exact I.funs
  · rw [e]
    obtain ⟨m, hn, _⟩ := I.loc
    refine .cons (by rw [I.ok.kind]; decide) hf hn ?_ I.funs
    exact Heap.get?_none_of_le (Nat.le_trans I.ok.bsz I.ok.above)
theorem Inv.stkSub (I : Inv X pins σ H s) : ∀ b ∈ frs X.stack, b ∈ X.env.locals :: X.fs := fun b hb => by
  rcases I.ok.stk with e | ⟨e, hf⟩
  · rw [e] at hb; exact List.mem_cons_of_mem _ hb
  · rw [e] at hb
    unfold frs at hb
    rw [List.filterMap_cons, hf] at hb
    exact hb
theorem Inv.stkFree (I : Inv X pins σ H s) : ∀ b ∈ frs X.stack, H b = none := fun b hb => by
  rcases List.mem_cons.mp (I.stkSub b hb) with e | hb
  · rw [e]; exact I.free
  · obtain ⟨_, o, ho, _⟩ := I.ok.funs.mem hb
    exact I.base.free b o ho (I.ok.frf b hb) fun z => I.ok.exfs b z hb

theorem Inv.step {g' : Array GenState} {t' : Nat} {d' : Drawn} {ch : List Addr} (I : Inv X pins σ H s)
    (hch : ∀ b ∈ ch, (b ∈ X.ex ∨ X.s₀.heap.objs.size ≤ b) ∧ b ≠ X.env.locals ∧ (∀ x c, X.env.cells.lookup x = some c → c ≠ b) ∧ ∀ p ∈ X.pn ++ pins, p.1 ≠ b)
    (keep : ∀ b o, b ≠ X.env.locals → b ∉ X.fs → b ∉ ch → s.heap.get? b = some o → H b = none → h'.get? b = some o)
    (slot : ∀ b o, b ≠ X.env.locals → b ∈ X.fs → b ∉ ch → s.heap.get? b = some o → H b = none → ∃ sl, h'.get? b = some { o with slots := sl }) (free : ∀ b o, b ∉ ch → s.heap.get? b = some o → H b = none → H' b = none)
    (there : ∀ b o, b ∉ ch → s.heap.get? b = some o → ∃ o', h'.get? b = some o')
    (tups : ∀ b xs, H b = some (.tup xs) → H' b = some (.tup xs)) (frzs : ∀ b o u, H b = some (.frz o u) → H' b = some (.frz o u)) (tbls : ∀ b ps, H b = some (.tbl ps) → ∃ more, H' b = some (.tbl (ps ++ more)))
    (ns : ∀ m, s.heap.Ns X.env.locals m → h'.Ns X.env.locals m) (hok : HOk X.prog X.w H' h') (hg : AllBare g') :
    Inv X pins σ H' { s with heap := h', gens := g', drawn := d', toks := t' } := by
  have neL : ∀ b o, X.s₀.heap.get? b = some o → b ≠ X.env.locals := fun b o e => Nat.ne_of_lt (Nat.lt_of_lt_of_le (Heap.lt_size e) I.ok.above)
  have neC : ∀ b o, X.s₀.heap.get? b = some o → b ∉ X.ex → b ∉ ch := fun b o e hx hb => by
    rcases (hch b hb).1 with z | z
    · exact hx z
    · exact absurd (Nat.lt_of_lt_of_le (Heap.lt_size e) z) (Nat.lt_irrefl _)
  have cellK : ∀ x c, X.env.cells.lookup x = some c → ∀ v, s.heap.IsCell c v → h'.IsCell c v := fun x c e v ⟨o, ho, hd⟩ => by
    have nch : c ∉ ch := fun z => (hch c z).2.2.1 x c e rfl
    by_cases hc : c ∈ X.fs
    · obtain ⟨sl, q⟩ := slot c o (I.cne x c e) hc nch ho (I.freeC x c e)
      exact ⟨_, q, hd⟩
    · exact ⟨o, keep c o (I.cne x c e) hc nch ho (I.freeC x c e), hd⟩
  refine ⟨I.ok, I.os, hg, ⟨fun b o e n hb hx => ?_, fun b o e n hb hx => ?_, fun b o e n hx => ?_, fun b o e hx => ?_, fun b xs e => tups b xs (I.base.tups b xs e), fun b o xs e => frzs b o xs (I.base.frzs b o xs e), fun b ps e => ?_⟩, ?_, fun x c e => ?_, ?_, fun x c e => ?_, fun p hp => ?_, hok, I.len⟩
  · exact keep b o (neL b o e) hb (neC b o e hx) (I.base.keep b o e n hb hx) (I.base.free b o e n hx)
  · obtain ⟨sl, e1⟩ := I.base.slot b o e n hb hx
    obtain ⟨sl', e2⟩ := slot b _ (neL b o e) hb (neC b o e hx) e1 (I.base.free b o e n hx)
    exact ⟨sl', e2⟩
  · obtain ⟨o', e1⟩ := I.base.there b o e hx
    exact free b o' (neC b o e hx) e1 (I.base.free b o e n hx)
  · obtain ⟨o', e1⟩ := I.base.there b o e hx
    exact there b o' (neC b o e hx) e1
  · obtain ⟨m1, e1⟩ := I.base.tbls b ps e
    obtain ⟨m2, e2⟩ := tbls b _ e1
    exact ⟨m1 ++ m2, by rw [e2, Array.append_assoc]⟩
  · obtain ⟨m, hn, hl⟩ := I.loc
    refine ⟨m, ns m hn, fun i x v e1 e2 e3 => ?_⟩
    obtain ⟨u, r, l⟩ := hl i x v e1 e2 e3
    refine ⟨u, r, ?_⟩
    rcases l with l | ⟨k, c, e, z⟩
    · exact .inl l
    · exact .inr ⟨k, c, e, cellK x c e _ z⟩
  · obtain ⟨v, z⟩ := I.cell x c e
    exact ⟨v, cellK x c e v z⟩
  · obtain ⟨m, ⟨o, _, _, ho, _⟩, _⟩ := I.loc
    exact free _ o (fun z => (hch _ z).2.1 rfl) ho I.free
  · obtain ⟨v, o, ho, hd⟩ := I.cell x c e
    exact free c o (fun z => (hch c z).2.2.1 x c e rfl) ho (I.freeC x c e)
  · obtain ⟨e, n, ne, nf, d⟩ := I.pin p hp
    have nch : p.1 ∉ ch := fun z => (hch p.1 z).2.2.2 p hp rfl
    exact ⟨keep p.1 p.2 ne nf nch e n, free p.1 p.2 nch e n, ne, nf, d⟩
theorem Inv.un {t' : Nat} (I : Inv X pins σ H s) (u : Un X.fs [] H H' s.heap h') (hok : HOk X.prog X.w H' h') : Inv X pins σ H' { s with heap := h', toks := t' } := by
  obtain ⟨m, ⟨o, es, ep, ho, r⟩, _⟩ := id I.loc
  obtain ⟨sl, hL⟩ := u.any ho I.free (by simp)
  exact I.step (g' := s.gens) (d' := s.drawn) (ch := []) (fun _ z => nomatch z) (fun b o _ hb _ e n => u.keep b o e n hb (by simp)) (fun b o _ hb _ e n => u.slot b o e n hb (by simp)) (fun b o _ e n => u.free b o e n (by simp)) (fun b o _ e => u.there b o e (by simp)) u.tups u.frzs u.tbls (fun m' hm => by
    obtain ⟨o', es', ep', ho', r'⟩ := hm
    rw [ho] at ho'; cases ho'
    exact ⟨_, es', ep', hL, r'⟩) hok I.bare
theorem Inv.call {g' : Array GenState} {t' : Nat} {d' : Drawn} {ch : List Addr} (I : Inv X pins σ H s) (u : Un (frs X.stack) ch H H' s.heap h') (hok : HOk X.prog X.w H' h') (hg : AllBare g')
    (hch : ∀ b ∈ ch, (b ∈ X.ex ∨ X.s₀.heap.objs.size ≤ b) ∧ b ≠ X.env.locals ∧ (∀ x c, X.env.cells.lookup x = some c → c ≠ b) ∧ ∀ p ∈ X.pn ++ pins, p.1 ≠ b) :
    Inv X pins σ H' { s with heap := h', gens := g', drawn := d', toks := t' } := by
  obtain ⟨m, ⟨o, es, ep, ho, r⟩, _⟩ := id I.loc
  obtain ⟨sl, hL⟩ := u.any ho I.free fun z => (hch _ z).2.1 rfl
  exact I.step (ch := ch) hch (fun b o hL hb hc e n => u.keep b o e n (fun z => (List.mem_cons.mp (I.stkSub b z)).elim hL hb) hc) (fun b o _ _ hc e n => u.any e n hc) (fun b o hc e n => u.free b o e n hc) (fun b o hc e => u.there b o e hc) u.tups u.frzs u.tbls (fun m' hm => by
    obtain ⟨o', es', ep', ho', r'⟩ := hm
    rw [ho] at ho'; cases ho'
    exact ⟨_, es', ep', hL, r'⟩) hok hg
theorem Inv.turned {t' : Nat} {it : Addr} (I : Inv X pins σ H s) (k : ∀ b o, b ≠ it → s.heap.get? b = some o → h'.get? b = some o) (hn : H it = none) (hL : it ≠ X.env.locals)
    (h1 : it ∈ X.ex ∨ X.s₀.heap.objs.size ≤ it) (h2 : ∀ x c, X.env.cells.lookup x = some c → c ≠ it) (h3 : ∀ p ∈ X.pn ++ pins, p.1 ≠ it) : Inv X pins σ H { s with heap := h', toks := t' } := by
  have nit : ∀ b u, H b = some u → b ≠ it := fun b u e z => by rw [z, hn] at e; cases e
  refine I.step (g' := s.gens) (d' := s.drawn) (ch := [it]) (fun b hb => ?_) (fun b o _ _ hc e _ => k b o (fun z => hc (by simp [z])) e) (fun b o _ _ hc e _ => ⟨o.slots, k b o (fun z => hc (by simp [z])) e⟩) (fun _ _ _ _ n => n)
    (fun b o hc e => ⟨o, k b o (fun z => hc (by simp [z])) e⟩) (fun _ _ e => e) (fun _ _ _ e => e) (fun b ps e => ⟨#[], by rw [e]; simp⟩) (fun m hm => ?_) (fun b u e => ?_) I.bare
  · have e : b = it := by simpa using hb
    subst e
    exact ⟨h1, hL, h2, h3⟩
  · obtain ⟨o, es, ep, ho, r⟩ := hm
    exact ⟨o, es, ep, k _ o (Ne.symm hL) ho, r⟩
  · refine (I.hok b u e).stay (fun c v hc q => k c v ?_ q) (fun _ q => q) fun _ _ q => q
    rcases hc with z | z
    · rw [z]; exact nit b u e
    · exact nit c _ z
theorem Inv.tok (I : Inv X pins σ H s) (t : Nat) : Inv X pins σ H { s with toks := t } := I.un (h' := s.heap) (t' := t) Un.refl I.hok
theorem Inv.kept {t' : Nat} (I : Inv X pins σ H s) (k : ∀ b u, s.heap.get? b = some u → h'.get? b = some u) : Inv X pins σ H { s with heap := h', toks := t' } := I.un (Un.kept k) (I.hok.kept k)
theorem Inv.laid {a : Addr} {o : HO} {t' : Nat} (I : Inv X pins σ H s) (k : ∀ b u, s.heap.get? b = some u → h'.get? b = some u) (hp : s.heap.objs.size ≤ a) (new : ObjOk X.prog X.w (upd H a o) h' a o) :
    Inv X pins σ (upd H a o) { s with heap := h', toks := t' } := I.un (Un.laid k hp (I.hok.fresh hp)) (I.hok.laid k hp new)
theorem Inv.write {x e : Addr} {o : HO} {t' : Nat} (I : Inv X pins σ H s) (mu : Mut (H x)) (he : e = x ∨ H e = some (.own x)) (k : ∀ b u, b ≠ e → s.heap.get? b = some u → h'.get? b = some u) (heo : ∃ u, h'.get? e = some u)
    (new : ObjOk X.prog X.w (upd H x o) h' x o) : Inv X pins σ (upd H x o) { s with heap := h', toks := t' } := I.un (Un.write mu he k heo) (I.hok.write mu he k heo new)
theorem Inv.pins_of {pins' : List (Addr × Obj)} (I : Inv X pins σ H s) (h : ∀ p ∈ pins', s.heap.get? p.1 = some p.2 ∧ H p.1 = none ∧ p.1 ≠ X.env.locals ∧ p.1 ∉ X.fs ∧ ∀ v, p.2.data ≠ .cell v) : Inv X pins' σ H s :=
  ⟨I.ok, I.os, I.bare, I.base, I.loc, I.cell, I.free, I.freeC, fun p hp => (List.mem_append.mp hp).elim (fun z => I.pin p (List.mem_append_left _ z)) (h p), I.hok, I.len⟩

theorem nodup_ix {N : List Str} (hN : N.Nodup) {i j : Nat} {x : Str} (a : N[i]? = some x) (b : N[j]? = some x) : i = j := by
  obtain ⟨h1, e1⟩ := List.getElem?_eq_some_iff.mp a
  obtain ⟨h2, e2⟩ := List.getElem?_eq_some_iff.mp b
  exact (List.getElem_inj hN).mp (e1.trans e2.symm)

theorem store_ok2 {M : Model} {A : Around} {E : Value → Shared → Prop} {i : Nat} {x : Str} {v : V} {u : Value} {Q : Unit → Shared → Prop} (I : Inv X pins σ H s) (hN : X.N.Nodup) (hi : X.N[i]? = some x) (hx : Loc X.env.scope x) (r : RelV v u)
    (h : ∀ s', Inv X pins (σ.set i (some v)) H s' → (∃ a, Heap.SameBut a s.heap s'.heap ∧ (a = X.env.locals ∨ X.env.cells.lookup x = some a)) → Q () s') (hf : X.fn x = true ∨ X.env.scope.names.lookup x = some .local := by first | exact .inl rfl | exact .inr rfl | assumption) : wpAny M A (storeName X.env x u) Q E s := by
  obtain ⟨m, hn, hl⟩ := id I.loc
  have hcls : (X.env.scope.kind == .class || (X.env.scope.kind == .module && X.env.locals != X.env.globals)) = false := by rw [I.ok.kind]; rfl
  have hiσ : i < σ.length := by rw [I.len]; exact (List.getElem?_eq_some_iff.mp hi).1
  have cne := I.cne
  have tracked : ∀ {a : Addr} {h' : Heap}, (∃ o, s.heap.get? a = some o ∧ H a = none) → Heap.SameBut a s.heap h' → HOk X.prog X.w H h' := fun {a h'} ha hs b ob e => by
    obtain ⟨_, _, hfree⟩ := ha
    refine (I.hok b ob e).stay (fun c w' hc q => (hs.2 c ?_).trans q) (fun _ q => q) fun _ _ q => q
    rintro rfl
    rcases hc with rfl | hc
    · rw [hfree] at e; cases e
    · rw [hfree] at hc; cases hc
  rcases hx with hk | hk
  · refine wpAny_storeName_local hk hn (fun h' hn' hs => ?_) hcls
    obtain ⟨oL, _, _, hoL, _⟩ := id hn
    refine h _ ⟨I.ok, I.os, I.bare, ⟨fun b o e n hb hx => ?_, fun b o e n hb hx => ?_, I.base.free, fun b o e hx => ?_, I.base.tups, I.base.frzs, I.base.tbls⟩, ⟨_, hn', fun j y v' e1 e2 e3 => ?_⟩, fun y c e => ?_, I.free, I.freeC, fun p hp => ?_, tracked ⟨oL, hoL, I.free⟩ hs, by simpa using I.len⟩ ⟨_, hs, .inl rfl⟩
    · exact (hs.2 b (Nat.ne_of_lt (Nat.lt_of_lt_of_le (Heap.lt_size e) I.ok.above))).trans (I.base.keep b o e n hb hx)
    · obtain ⟨sl, e1⟩ := I.base.slot b o e n hb hx
      exact ⟨sl, (hs.2 b (Nat.ne_of_lt (Nat.lt_of_lt_of_le (Heap.lt_size e) I.ok.above))).trans e1⟩
    · obtain ⟨o', e1⟩ := I.base.there b o e hx
      exact ⟨o', (hs.2 b (Nat.ne_of_lt (Nat.lt_of_lt_of_le (Heap.lt_size e) I.ok.above))).trans e1⟩
    · by_cases hj : j = i
      · subst hj
        rw [hi] at e1; cases e1
        rw [List.getElem?_set_self hiσ] at e2
        cases e2
        exact ⟨u, r, .inl ⟨hk, by simp⟩⟩
      · rw [List.getElem?_set_ne (Ne.symm hj)] at e2
        obtain ⟨u', r', q⟩ := hl j y v' e1 e2 e3
        refine ⟨u', r', ?_⟩
        rcases q with ⟨k, e⟩ | ⟨k, c, e, z⟩
        · refine .inl ⟨k, ?_⟩
          have : y ≠ x := fun e => hj (nodup_ix hN e1 (e ▸ hi))
          simp [this, e]
        · exact .inr ⟨k, c, e, z.sameBut hs (cne y c e)⟩
    · obtain ⟨w', z⟩ := I.cell y c e
      exact ⟨w', z.sameBut hs (cne y c e)⟩
    · obtain ⟨e, n, ne, nf, d⟩ := I.pin p hp
      exact ⟨(hs.2 p.1 ne).trans e, n, ne, nf, d⟩
  · have hfn : X.fn x = true := by
      rcases hf with z | z
      · exact z
      · rw [z] at hk; cases hk
    obtain ⟨c, hc⟩ := I.ok.has x (.inl hk)
    obtain ⟨w', z⟩ := I.cell x c hc
    refine wpAny_storeName_cell I.ok.kind hk hc z (fun h' hc' hs => ?_)
    obtain ⟨oc, hoc, hocd⟩ := id z
    refine h { s with heap := h' } ⟨I.ok, I.os, I.bare, ⟨fun b o e n hb hx => ?_, fun b o e n hb hx => ?_, I.base.free, fun b o e hx => ?_, I.base.tups, I.base.frzs, I.base.tbls⟩, ⟨m, hn.sameBut hs (Ne.symm (cne x c hc)), fun j y v' e1 e2 e3 => ?_⟩, fun y c' e => ?_, I.free, I.freeC, fun p hp => ?_, tracked ⟨oc, hoc, I.freeC x c hc⟩ hs, by simpa using I.len⟩ ⟨c, hs, .inr hc⟩
    · exact (hs.2 b (Nat.ne_of_lt (Nat.lt_of_lt_of_le (Heap.lt_size e) (I.ok.cab x c hfn hc)))).trans (I.base.keep b o e n hb hx)
    · obtain ⟨sl, e1⟩ := I.base.slot b o e n hb hx
      exact ⟨sl, (hs.2 b (Nat.ne_of_lt (Nat.lt_of_lt_of_le (Heap.lt_size e) (I.ok.cab x c hfn hc)))).trans e1⟩
    · obtain ⟨o', e1⟩ := I.base.there b o e hx
      exact ⟨o', (hs.2 b (Nat.ne_of_lt (Nat.lt_of_lt_of_le (Heap.lt_size e) (I.ok.cab x c hfn hc)))).trans e1⟩
    · by_cases hj : j = i
      · subst hj
        rw [hi] at e1; cases e1
        rw [List.getElem?_set_self hiσ] at e2
        cases e2
        exact ⟨u, r, .inr ⟨.inl hk, c, hc, hc'⟩⟩
      · rw [List.getElem?_set_ne (Ne.symm hj)] at e2
        obtain ⟨u', r', q⟩ := hl j y v' e1 e2 e3
        refine ⟨u', r', ?_⟩
        rcases q with q | ⟨k, c', e, z'⟩
        · exact .inl q
        · refine .inr ⟨k, c', e, z'.sameBut hs ?_⟩
          rintro rfl
          exact hj (nodup_ix hN e1 (I.ok.inj _ _ _ e hc ▸ hi))
    · by_cases hcc : c' = c
      · subst hcc; exact ⟨_, hc'⟩
      · obtain ⟨w2, z2⟩ := I.cell y c' e
        exact ⟨w2, z2.sameBut hs hcc⟩
    · obtain ⟨e, n, ne, nf, d⟩ := I.pin p hp
      refine ⟨(hs.2 p.1 ?_).trans e, n, ne, nf, d⟩
      intro q
      rw [q, hoc] at e
      have q' : oc = p.2 := Option.some.inj e
      exact d w' (by rw [← q']; exact hocd)
theorem store_ok {M : Model} {A : Around} {E : Value → Shared → Prop} {i : Nat} {x : Str} {v : V} {u : Value} {Q : Unit → Shared → Prop} (I : Inv X pins σ H s) (hN : X.N.Nodup) (hi : X.N[i]? = some x) (hx : Loc X.env.scope x) (r : RelV v u)
    (h : ∀ s', Inv X pins (σ.set i (some v)) H s' → Q () s') (hf : X.fn x = true ∨ X.env.scope.names.lookup x = some .local := by first | exact .inl rfl | exact .inr rfl | assumption) : wpAny M A (storeName X.env x u) Q E s :=
  store_ok2 I hN hi hx r (fun s' I' _ => h s' I') hf
theorem Inv.call' {s' : Shared} {ch : List Addr} (I : Inv X pins σ H s) (ho : s'.os = s.os) (u : Un (frs X.stack) ch H H' s.heap s'.heap) (hok : HOk X.prog X.w H' s'.heap) (hg : AllBare s'.gens)
    (hch : ∀ b ∈ ch, (b ∈ X.ex ∨ X.s₀.heap.objs.size ≤ b) ∧ b ≠ X.env.locals ∧ (∀ x c, X.env.cells.lookup x = some c → c ≠ b) ∧ ∀ p ∈ X.pn ++ pins, p.1 ≠ b) : Inv X pins σ H' s' := by
  obtain ⟨h', g', d', t', o'⟩ := s'
  have e : o' = s.os := ho
  subst e
  exact I.call (g' := g') (t' := t') (d' := d') u hok hg hch
end

abbrev XK := Value → Option Addr → Hp → Prop
abbrev St := List (Option V)
abbrev VK := V → Hp → Prop
abbrev TE := St → Hp → VK → Prop
abbrev TT := St → Hp → (Bool → Hp → Prop) → Prop
abbrev TA := St → Hp → (List V → Hp → Prop) → Prop
structure Ends where
  nx : St → Hp → Prop
  rt : VK
  bk : St → Hp → Prop := fun _ _ => False
  ct : St → Hp → Prop := fun _ _ => False
abbrev TS := Ends → St → Hp → Prop

def EP (X : Cx) (pins : List (Addr × Obj)) (σ : St) (Q : VK) (u : Value) (s' : Shared) : Prop := ∃ v H', Inv X pins σ H' s' ∧ RelV v u ∧ Q v H'
def TP (X : Cx) (pins : List (Addr × Obj)) (σ : St) (Q : Bool → Hp → Prop) (b : Bool) (s' : Shared) : Prop := ∃ H', Inv X pins σ H' s' ∧ Q b H'
def AP (X : Cx) (pins : List (Addr × Obj)) (σ : St) (Q : List V → Hp → Prop) (us : List Value) (s' : Shared) : Prop := ∃ vs H', Inv X pins σ H' s' ∧ Vals vs us ∧ Q vs H'
def SP (X : Cx) (pins : List (Addr × Obj)) (D : Ends) (f : Flow) (s' : Shared) : Prop :=
  match f with
  | .next => ∃ σ' H', Inv X pins σ' H' s' ∧ D.nx σ' H'
  | .brk => ∃ σ' H', Inv X pins σ' H' s' ∧ D.bk σ' H'
  | .cont => ∃ σ' H', Inv X pins σ' H' s' ∧ D.ct σ' H'
  | .ret u => ∃ v σ' H', Inv X pins σ' H' s' ∧ RelV v u ∧ D.rt v H'

def PE (X : Cx) (e : Expr) (t : TE) : Prop :=
  ∀ (pins : List (Addr × Obj)) (s : Shared) (σ : St) (H : Hp) (Q : VK), Inv X pins σ H s → t σ H Q → wpAny (model X.prog X.w) X.A (eval e X.env) (EP X pins σ Q) X.xe s
def PT (X : Cx) (e : Expr) (t : TT) : Prop :=
  ∀ (pins : List (Addr × Obj)) (s : Shared) (σ : St) (H : Hp) (Q : Bool → Hp → Prop), Inv X pins σ H s → t σ H Q → wpAny (model X.prog X.w) X.A (isTrue e X.env (eval e X.env)) (TP X pins σ Q) X.xe s
def PW (X : Cx) (e : Expr) (t : TT) : Prop :=
  ∀ (whole : Sem Value) (pins : List (Addr × Obj)) (s : Shared) (σ : St) (H : Hp) (Q : Bool → Hp → Prop), Inv X pins σ H s → t σ H Q → wpAny (model X.prog X.w) X.A (isTrue e X.env whole) (TP X pins σ Q) X.xe s
theorem PW.pt {X : Cx} {e : Expr} {t : TT} (h : PW X e t) : PT X e t := h _
def PA (X : Cx) (es : List Expr) (t : TA) : Prop :=
  ∀ (pos : Pos) (pins : List (Addr × Obj)) (s : Shared) (σ : St) (H : Hp) (Q : List V → Hp → Prop), Inv X pins σ H s → t σ H Q → wpAny (model X.prog X.w) X.A (spliced (backTo pos (starEach es X.env))) (AP X pins σ Q) X.xe s
def PS (X : Cx) (st : Stmt) (t : TS) : Prop :=
  ∀ (pins : List (Addr × Obj)) (s : Shared) (σ : St) (H : Hp) (D : Ends), Inv X pins σ H s → t D σ H → wpAny (model X.prog X.w) X.A (exec st X.env) (SP X pins D) X.xe s
def PSs (X : Cx) (st : List Stmt) (t : TS) : Prop :=
  ∀ (pins : List (Addr × Obj)) (s : Shared) (σ : St) (H : Hp) (D : Ends), Inv X pins σ H s → t D σ H → wpAny (model X.prog X.w) X.A (execs st X.env) (SP X pins D) X.xe s
theorem thn {α : Type} {t : Sem α} {Q Q' : α → Shared → Prop} {M : Model} {A : Around} {E : Value → Shared → Prop} {s : Shared} (h : wpAny M A t Q E s) (hQ : ∀ a s, Q a s → Q' a s) : wpAny M A t Q' E s := wpAny_mono h hQ fun _ _ x => x
end L2

namespace L2
open PySem PySem.Spec PyProof.Rows
section
variable {X : Cx}

def tVar (i : Nat) : TE := fun σ H Q => ∃ v, σ[i]? = some (some v) ∧ Q v H
def tC (v : V) : TE := fun _ H Q => Q v H
theorem pe_var {i : Nat} {x : Str} {pos : Pos} (hN : X.N[i]? = some x) (hv : Vis X.env.scope x) (hd : (x == ("__debug__" : Str)) = false := by decide) (hcd : (x == ("__classdict__" : Str)) = false := by decide) : PE X (.Name x pos) (tVar i) := by
  intro pins s σ H Q I h
  obtain ⟨v, e, h⟩ := h
  obtain ⟨m, hn, hl⟩ := I.loc
  obtain ⟨u, r, l⟩ := hl i x v hN e hv
  have fin : EP X pins σ Q u s := ⟨v, H, I, r, h⟩
  rcases l with ⟨hk, hm⟩ | ⟨hk, c, hc, hcell⟩
  · exact wpAny_Name (wpAny_loadName_local I.ok.kind hk hn hm fin) hd
  · rcases hk with hk | hk
    · exact wpAny_Name (wpAny_loadName_cell I.ok.kind hk hc hcell fin) hd
    · exact wpAny_Name (wpAny_loadName_free I.ok.kind hk hc hcell fin hcd) hd
theorem pe_int {i j pos} : PE X (.Constant (.int i) j pos) (tC (.int i)) := fun _ _ _ H _ I h => wpAny_Constant_int ⟨.int i, H, I.tok _, ⟨_, rfl⟩, h⟩
theorem pe_bl {b j pos} : PE X (.Constant (.bool b) j pos) (tC (.bl b)) := fun _ _ _ H _ I h => Constant_bool ⟨.bl b, H, I, rfl, h⟩
theorem pe_str {x j pos} : PE X (.Constant (.str x) j pos) (tC (.str x)) := fun _ _ _ H _ I h => Calls.Constant_str ⟨.str x, H, I.tok _, ⟨_, rfl⟩, h⟩

def Gl (X : Cx) (x : Str) : Prop := X.env.kindOf x = some .globalImplicit
theorem ld_glob {E : Value → Shared → Prop} {pins : List (Addr × Obj)} {s : Shared} {σ : St} {H : Hp} {x : Str} {u : Value} {pos : Pos} {Q : Value → Shared → Prop} (I : Inv X pins σ H s) (hg : Gl X x) (hm : X.mg x = some u) (h : Q u s)
    (hd : (x == ("__debug__" : Str)) = false := by decide) : wpAny (model X.prog X.w) X.A (eval (.Name x pos) X.env) Q E s :=
  Calls.Name_function_global I.ok.kind hg (Calls.loadGlobal_global (by rw [I.ok.glob]; exact I.mod.glob.keeps I.bk) hm h) hd
theorem ld_blt {E : Value → Shared → Prop} {pins : List (Addr × Obj)} {s : Shared} {σ : St} {H : Hp} {x : Str} {u : Value} {pos : Pos} {Q : Value → Shared → Prop} (I : Inv X pins σ H s) (hg : Gl X x) (hm : X.mg x = none) (hv : bootBuiltins x = some u) (h : Q u s)
    (hn : x ≠ "__name__" := by decide) (hd : (x == ("__debug__" : Str)) = false := by decide) : wpAny (model X.prog X.w) X.A (eval (.Name x pos) X.env) Q E s := by
  obtain ⟨mb, h1, h2⟩ := I.mod.blt
  exact Calls.Name_function_global I.ok.kind hg (Calls.loadGlobal_builtin (by rw [I.ok.glob]; exact I.mod.glob.keeps I.bk) hm (by rw [I.ok.blt]; exact h1.keeps I.bk) ((h2 x hn).trans hv) h) hd
theorem pe_glob {x : Str} {v : V} {u : Value} {pos : Pos} (hg : Gl X x) (hm : X.mg x = some u) (r : RelV v u) (hd : (x == ("__debug__" : Str)) = false := by decide) : PE X (.Name x pos) (tC v) :=
  fun _ _ _ H _ I h => ld_glob I hg hm ⟨v, H, I, r, h⟩ hd
theorem pe_bltn {x : Str} {v : V} {u : Value} {pos : Pos} (hg : Gl X x) (hm : X.mg x = none) (hv : bootBuiltins x = some u) (r : RelV v u) (hn : x ≠ "__name__" := by decide) (hd : (x == ("__debug__" : Str)) = false := by decide) : PE X (.Name x pos) (tC v) :=
  fun _ _ _ H _ I h => ld_blt I hg hm hv ⟨v, H, I, r, h⟩ hn hd

variable {a b : Expr} {ta tb : TE} {pos : Pos}
def tB (t : TE) : TT := fun σ H Q => t σ H fun x H1 => ∃ c, x = .bl c ∧ Q c H1
theorem pt_val {e : Expr} {t : TE} (h : PE X e t) (he : ∀ whole, isTrue e X.env whole = (do let v ← whole; standAt e.pos; holding [v] (truthy v)) := by intro _; rfl) : PT X e (tB t) := by
  intro pins s σ H Q I hw
  refine isTrue_plain (thn (h pins s σ H _ I hw) fun v s1 ⟨x, H1, I1, r1, q1⟩ => ?_) (he _)
  obtain ⟨d, rfl, q⟩ := q1
  cases r1
  exact wpAny_truthy_bool ⟨H1, I1, q⟩

variable {tA tB' : TT} {rest : List Expr}
def tAnd (t u : TT) : TT := fun σ H Q => t σ H fun c H1 => if c = true then u σ H1 Q else Q false H1
def tOr (t u : TT) : TT := fun σ H Q => t σ H fun c H1 => if c = true then Q true H1 else u σ H1 Q
def tNot (t : TT) : TT := fun σ H Q => t σ H fun c H1 => Q (!c) H1
theorem pw_and1 (ha : PT X a tA) : PW X (.BoolOp .And [a] pos) tA := by
  intro wh pins s σ H Q I h
  refine isTrue_and (thn (ha pins s σ H Q I h) fun c s1 e => ?_)
  cases c with
  | true => exact isTrue_and_nil e
  | false => exact e
theorem pw_or1 (ha : PT X a tA) : PW X (.BoolOp .Or [a] pos) tA := by
  intro wh pins s σ H Q I h
  refine isTrue_or (thn (ha pins s σ H Q I h) fun c s1 e => ?_)
  cases c with
  | false => exact isTrue_or_nil e
  | true => exact e
theorem pw_and (ha : PT X a tA) (hb : PW X (.BoolOp .And (b :: rest) pos) tB') : PW X (.BoolOp .And (a :: b :: rest) pos) (tAnd tA tB') := by
  intro wh pins s σ H Q I h
  refine isTrue_and (thn (ha pins s σ H _ I h) fun c s1 ⟨H1, I1, q1⟩ => ?_)
  cases c with
  | true => exact hb wh pins s1 σ H1 Q I1 q1
  | false => exact ⟨H1, I1, q1⟩
theorem pw_or (ha : PT X a tA) (hb : PW X (.BoolOp .Or (b :: rest) pos) tB') : PW X (.BoolOp .Or (a :: b :: rest) pos) (tOr tA tB') := by
  intro wh pins s σ H Q I h
  refine isTrue_or (thn (ha pins s σ H _ I h) fun c s1 ⟨H1, I1, q1⟩ => ?_)
  cases c with
  | true => exact ⟨H1, I1, q1⟩
  | false => exact hb wh pins s1 σ H1 Q I1 q1
theorem pt_not (ha : PT X a tA) : PT X (.UnaryOp .Not a pos) (tNot tA) := by
  intro pins s σ H Q I h
  exact isTrue_not (ha pins s σ H (fun c H1 => Q (!c) H1) I h)
def tAndV (ta tb : TE) : TE := fun σ H Q => ta σ H fun x H1 => ∃ c, x = .bl c ∧ if c = true then tb σ H1 Q else Q (.bl false) H1
theorem pe_one {op} {t : TE} (h : PE X a t) : PE X (.BoolOp op [a] pos) t := fun pins s σ H Q I hw => BoolOp_one (h pins s σ H Q I hw)
theorem pe_and (ha : PE X a ta) (hb : PE X (.BoolOp .And (b :: rest) pos) tb) : PE X (.BoolOp .And (a :: b :: rest) pos) (tAndV ta tb) := by
  intro pins s σ H Q I h
  refine BoolOp_and (thn (ha pins s σ H _ I h) fun v s1 ⟨x, H1, I1, r1, q1⟩ => ?_)
  obtain ⟨c, rfl, q1⟩ := q1
  cases r1
  refine wpAny_truthy_bool ?_
  cases c with
  | true => exact hb pins s1 σ H1 Q I1 q1
  | false => exact ⟨.bl false, H1, I1, rfl, q1⟩
end
end L2

namespace L2
open PySem PySem.Spec PyProof.Rows

def SqL (K : PySem.W.Frag) (H : Hp) (a : Addr) (xs : List V) : Prop :=
  Rd H a (.lst xs) ∨
    ∃ (o : Obj) (its : Array Value) (n : Nat), K.lookup a = some o ∧ o.cls = .type "list" ∧ o.dict = none ∧ o.data = .seq its n ∧ its.size ≤ sizeLine ∧ Vals xs its.toList
def SqT (K : PySem.W.Frag) (H : Hp) (a : Addr) (xs : List V) : Prop :=
  Rd H a (.tup xs) ∨
    ∃ (o : Obj) (its : Array Value) (n : Nat), K.lookup a = some o ∧ o.cls = .type "tuple" ∧ o.data = .seq its n ∧ its.size ≤ sizeLine ∧ Vals xs its.toList
def absV : Value → Option V
  | .none => some .non
  | .bool b => some (.bl b)
  | .int i _ => some (.int i)
  | .str x _ => some (.str x)
  | .bytes b _ => some (.byt b)
  | .float b _ => some (.flt b)
  | .ref a => some (.ref a)
  | .type n => some (.ty n)
  | _ => none
theorem RelV.abs {x : V} {u : Value} (r : RelV x u) : absV u = some x := by
  cases x with
  | non => cases r; rfl
  | bl _ => cases r; rfl
  | int _ => obtain ⟨t, rfl⟩ := r; rfl
  | str _ => obtain ⟨t, rfl⟩ := r; rfl
  | byt _ => obtain ⟨t, rfl⟩ := r; rfl
  | flt _ => obtain ⟨t, rfl⟩ := r; rfl
  | ref _ => cases r; rfl
  | ty _ => cases r; rfl
theorem RelV.inj {x y : V} {u : Value} (r : RelV x u) (q : RelV y u) : x = y := Option.some.inj (r.abs.symm.trans q.abs)
theorem Vals.inj : ∀ {xs ys : List V} {us : List Value}, Vals xs us → Vals ys us → xs = ys
  | _, _, _, .nil, .nil => rfl
  | _, _, _, .cons r t, .cons r' t' => by rw [r.inj r', Vals.inj t t']
section
variable {X : Cx} {pins : List (Addr × Obj)} {σ : St} {H : Hp} {s : Shared} {a : Addr} {xs ys : List V}
theorem SqL.of {K : PySem.W.Frag} (h : H a = some (.lst xs)) : SqL K H a xs := .inl (.inl h)
theorem SqT.of {K : PySem.W.Frag} (h : H a = some (.tup xs)) : SqT K H a xs := .inl (.inl h)
theorem Inv.list (I : Inv X pins σ H s) (h : SqL X.K H a xs) : ∃ its : List Value, Vals xs its ∧ PlainL s.heap a its.toArray ∧ xs.length ≤ sizeLine := by
  rcases h with h | ⟨o, its, n, hk, hc, hd, hs, hz, r⟩
  · obtain ⟨z, its, n, r, e⟩ := h.ok I.hok
    exact ⟨its, r, ⟨_, n, e, rfl, rfl, rfl⟩, z⟩
  · refine ⟨its.toList, r, ⟨o, n, I.kIn a o hk, hc, hd, by simpa using hs⟩, ?_⟩
    have e := r.length
    simp only [Array.length_toList] at e
    omega
theorem Inv.tuple (I : Inv X pins σ H s) (h : SqT X.K H a xs) : ∃ its : List Value, Vals xs its ∧ IsTup s.heap a its.toArray ∧ xs.length ≤ sizeLine := by
  rcases h with h | ⟨o, its, n, hk, hc, hs, hz, r⟩
  · obtain ⟨z, its, r, p⟩ := h.ok I.hok
    exact ⟨its, r, p.tup, z⟩
  · refine ⟨its.toList, r, ⟨o, I.kIn a o hk, hc, n, by simpa using hs⟩, ?_⟩
    have e := r.length
    simp only [Array.length_toList] at e
    omega
theorem Inv.list_inj (I : Inv X pins σ H s) (h : SqL X.K H a xs) (h' : SqL X.K H a ys) : xs = ys := by
  obtain ⟨its, r, ⟨o, n, e, _, _, d⟩, _⟩ := I.list h
  obtain ⟨its', r', ⟨o', n', e', _, _, d'⟩, _⟩ := I.list h'
  rw [e] at e'; cases e'
  rw [d] at d'
  injection d' with d1 _
  have : its = its' := by simpa using congrArg Array.toList d1
  subst this
  exact r.inj r'
theorem Inv.tuple_inj (I : Inv X pins σ H s) (h : SqT X.K H a xs) (h' : SqT X.K H a ys) : xs = ys := by
  obtain ⟨its, r, ⟨o, e, _, n, d⟩, _⟩ := I.tuple h
  obtain ⟨its', r', ⟨o', e', _, n', d'⟩, _⟩ := I.tuple h'
  rw [e] at e'; cases e'
  rw [d] at d'
  injection d' with d1 _
  have : its = its' := by simpa using congrArg Array.toList d1
  subst this
  exact r.inj r'
end

abbrev Cx.wish (X : Cx) (E : Value → Shared → Prop) : Cx := { X with xe := E }
abbrev Cx.nox (X : Cx) : Cx := X.wish fun _ _ => False
theorem Cx.Ok.wish {X : Cx} (ok : X.Ok) (E : Value → Shared → Prop) : (X.wish E).Ok :=
  ⟨ok.mod, ok.kind, ok.glob, ok.blt, ok.above, ok.inj, ok.has, ok.cab, ok.hd, ok.frames, ok.stk, ok.exf, ok.bs, ok.bsz, ok.noex, ok.exfs, ok.funs, ok.frf⟩
theorem Cx.Ok.unwish {X : Cx} {E : Value → Shared → Prop} (ok : (X.wish E).Ok) : X.Ok :=
  ⟨ok.mod, ok.kind, ok.glob, ok.blt, ok.above, ok.inj, ok.has, ok.cab, ok.hd, ok.frames, ok.stk, ok.exf, ok.bs, ok.bsz, ok.noex, ok.exfs, ok.funs, ok.frf⟩
section
variable {X : Cx} {pins : List (Addr × Obj)} {σ : St} {H : Hp} {s : Shared} {E : Value → Shared → Prop}
theorem Inv.wish (I : Inv X pins σ H s) (E : Value → Shared → Prop) : Inv (X.wish E) pins σ H s := ⟨I.ok.wish E, I.os, I.bare, I.base, I.loc, I.cell, I.free, I.freeC, I.pin, I.hok, I.len⟩
theorem Inv.unwish (I : Inv (X.wish E) pins σ H s) : Inv X pins σ H s := ⟨I.ok.unwish, I.os, I.bare, I.base, I.loc, I.cell, I.free, I.freeC, I.pin, I.hok, I.len⟩
theorem SP.unwish {D : Ends} {f : Flow} {s' : Shared} (h : SP (X.wish E) pins D f s') : SP X pins D f s' := by
  cases f with
  | next => obtain ⟨σ', H', I, q⟩ := h; exact ⟨σ', H', I.unwish, q⟩
  | brk => obtain ⟨σ', H', I, q⟩ := h; exact ⟨σ', H', I.unwish, q⟩
  | cont => obtain ⟨σ', H', I, q⟩ := h; exact ⟨σ', H', I.unwish, q⟩
  | ret u => obtain ⟨v, σ', H', I, r, q⟩ := h; exact ⟨v, σ', H', I.unwish, r, q⟩
theorem PSs.nox {st : List Stmt} {t : TS} (h : PSs X.nox st t) : PSs X st t := fun pins s σ H D I hw =>
  wpAny_mono (h pins s σ H D (I.wish _) hw) (fun _ _ q => q.unwish) fun _ _ z => False.elim z
end

section
variable {X : Cx} {st : Stmt} {rest : List Stmt} {t u : TS} {e : Expr} {te : TE} {pos : Pos}
def tNext : TS := fun D σ H => D.nx σ H
def tSeq (t u : TS) : TS := fun D σ H => t { D with nx := u D } σ H
theorem pss_nil : PSs X [] tNext := fun _ _ σ H _ I h => wpAny_execs_nil ⟨σ, H, I, h⟩
theorem pss_cons (h1 : PS X st t) (h2 : PSs X rest u) : PSs X (st :: rest) (tSeq t u) := by
  intro pins s σ H D I h
  refine wpAny_execs_cons (thn (h1 pins s σ H { D with nx := u D } I h) fun f s1 q => ?_)
  cases f with
  | next =>
    obtain ⟨σ', H', I', q⟩ := q
    exact h2 pins s1 σ' H' D I' q
  | ret v => exact q
  | brk => exact q
  | cont => exact q
theorem pss_one (h1 : PS X st t) : PSs X [st] t := by
  intro pins s σ H D I h
  refine wpAny_execs_cons (thn (h1 pins s σ H D I h) fun f s1 q => ?_)
  cases f with
  | next => exact wpAny_execs_nil q
  | ret v => exact q
  | brk => exact q
  | cont => exact q
theorem Inv.quiet {pins : List (Addr × Obj)} {σ : St} {H : Hp} {s : Shared} (I : Inv X pins σ H s) : interactive X.env = false := by simp [interactive, I.ok.kind]
def tDrop (te : TE) : TS := fun D σ H => te σ H fun _ H1 => D.nx σ H1
theorem ps_expr (he : PE X e te) (hs : swapsWith e none pos.line X.env = pure false := by rfl) : PS X (.Expr e pos) (tDrop te) := by
  intro pins s σ H D I h
  exact wpAny_Expr_any (thn (he pins s σ H _ I h) fun v s1 ⟨x, H1, I1, r1, q1⟩ => ⟨σ, H1, I1, q1⟩) I.quiet hs
def tRet (te : TE) : TS := fun D σ H => te σ H D.rt
theorem ps_ret (he : PE X e te) : PS X (.Return (some e) pos) (tRet te) := by
  intro pins s σ H D I h
  exact wpAny_Return_some (thn (he pins s σ H _ I h) fun v s1 ⟨x, H1, I1, r1, q1⟩ => ⟨x, σ, H1, I1, r1, q1⟩)
def tIfS (c : TT) (t u : TS) : TS := fun D σ H => c σ H fun b H1 => if b = true then t D σ H1 else u D σ H1
theorem ps_if {c : Expr} {a b : List Stmt} {tc : TT} (hc : PT X c tc) (ha : PSs X a t) (hb : PSs X b u) : PS X (.If c a b pos) (tIfS tc t u) := by
  intro pins s σ H D I h
  refine wpAny_If (thn (hc pins s σ H _ I h) fun d s1 ⟨H1, I1, q1⟩ => ?_)
  cases d with
  | true => exact ha pins s1 σ H1 D I1 q1
  | false => exact hb pins s1 σ H1 D I1 q1
def tNever : TS := fun _ _ _ => False
theorem pss_never {sts : List Stmt} : PSs X sts tNever := fun _ _ _ _ _ _ h => h.elim
end

abbrev TG := V → St → Hp → (St → Hp → Prop) → Prop
abbrev TGs := List V → St → Hp → (St → Hp → Prop) → Prop
def PG (X : Cx) (target : Expr) (t : TG) : Prop :=
  ∀ (pins : List (Addr × Obj)) (s : Shared) (σ : St) (H : Hp) (v : V) (u : Value) (Q : St → Hp → Prop), Inv X pins σ H s → RelV v u → t v σ H Q →
    wpAny (model X.prog X.w) X.A (assign target X.env u) (fun _ s' => ∃ σ' H', Inv X pins σ' H' s' ∧ Q σ' H') X.xe s
def PGs (X : Cx) (ts : List Expr) (t : TGs) : Prop :=
  ∀ (pins : List (Addr × Obj)) (s : Shared) (σ : St) (H : Hp) (vs : List V) (us : List Value) (Q : St → Hp → Prop), Inv X pins σ H s → Vals vs us → t vs σ H Q →
    wpAny (model X.prog X.w) X.A (assignInOrder ((assignEach ts X.env).map (·.2)) us) (fun _ s' => ∃ σ' H', Inv X pins σ' H' s' ∧ Q σ' H') X.xe s
abbrev TSet := V → V → V → Hp → (Hp → Prop) → Prop
def PSet (X : Cx) (t : TSet) : Prop :=
  ∀ (pins : List (Addr × Obj)) (s : Shared) (σ : St) (H : Hp) (o i v : V) (ov iv u : Value) (Q : Hp → Prop), Inv X pins σ H s → RelV o ov → RelV i iv → RelV v u → t o i v H Q →
    wpAny (model X.prog X.w) X.A (setItem ov iv u) (fun _ s' => ∃ H', Inv X pins σ H' s' ∧ Q H') X.xe s
section
variable {X : Cx} {pos : Pos}
def gName (i : Nat) : TG := fun v σ H Q => Q (σ.set i (some v)) H
theorem pg_name {i : Nat} {x : Str} (hN : X.N.Nodup) (hi : X.N[i]? = some x) (hx : Loc X.env.scope x) (hf : X.fn x = true ∨ X.env.scope.names.lookup x = some .local := by first | exact .inl rfl | exact .inr rfl | assumption) : PG X (.Name x pos) (gName i) := by
  intro pins s σ H v u Q I r h
  exact wpAny_assign_Name (store_ok I hN hi hx r (fun s' I' => ⟨_, H, I', h⟩) hf)
def gNil : TGs := fun vs σ H Q => vs = [] ∧ Q σ H
def gCons (t : TG) (u : TGs) : TGs := fun vs σ H Q => ∃ v r, vs = v :: r ∧ t v σ H fun σ' H' => u r σ' H' Q
theorem pgs_nil : PGs X [] gNil := by
  intro pins s σ H vs us Q I r h
  obtain ⟨e, h⟩ := h
  subst e
  cases r
  exact assignInOrder_nil ⟨σ, H, I, h⟩
theorem pgs_cons {e : Expr} {es : List Expr} {t : TG} {u : TGs} (h1 : PG X e t) (h2 : PGs X es u)
    (hs : (assignEach (e :: es) X.env).map (·.2) = assign e X.env :: (assignEach es X.env).map (·.2) := by rfl) : PGs X (e :: es) (gCons t u) := by
  intro pins s σ H vs us Q I r h
  obtain ⟨v, vr, e1, h⟩ := h
  subst e1
  cases r with
  | cons r rr =>
    rw [hs]
    refine assignInOrder_cons (thn (h1 pins s σ H _ _ _ I r h) fun _ s1 ⟨σ1, H1, I1, q1⟩ => ?_)
    exact h2 pins s1 σ1 H1 _ _ Q I1 rr q1
def gTup (K : PySem.W.Frag) (n : Nat) (t : TGs) : TG := fun v σ H Q => ∃ a xs, v = .ref a ∧ SqT K H a xs ∧ xs.length = n ∧ t xs σ H Q
theorem pg_tup {es : List Expr} {k : Nat} {t : TGs} {n : Nat} (hc : X.calm = true) (h : PGs X es t)
    (hn : (assignEach es X.env).length = n := by rfl) (hst : (assignEach es X.env).findIdx? (·.1) = none := by rfl) : PG X (.Tuple es k pos) (gTup X.K n t) := by
  intro pins s σ H v u Q I r hw
  obtain ⟨a, xs, e1, hq, hl, hw⟩ := hw
  subst e1
  cases r
  obtain ⟨its, rv, ht, hz⟩ := I.tuple hq
  refine assign_Tuple_tuple (I.ok.hd hc) ht (by simp [hn, ← hl, rv.length]) hst fun h' hx => ?_
  have I1 : Inv X pins σ H { s with heap := h' } := I.kept (t' := s.toks) fun b o e => hx b o (Nat.ne_of_lt (Heap.lt_size e)) e
  exact h pins _ σ H xs _ Q I1 (by simpa using rv) hw
def gSub (to ti : TE) (t : TSet) : TG := fun v σ H Q => to σ H fun o H1 => ti σ H1 fun i H2 => t o i v H2 fun H3 => Q σ H3
theorem pg_sub {o i : Expr} {to ti : TE} {t : TSet} (ho : PE X o to) (hi : PE X i ti) (hs : PSet X t)
    (ha : ∀ v, assign (.Subscript o i pos) X.env v = (do
      let ov ← holding [v] (eval o X.env)
      let iv ← holding [v, ov] (eval i X.env)
      standAt pos
      holding [v, ov, iv] (setItem ov iv v)
      release [v, ov, iv] []) := by intro _; rfl) : PG X (.Subscript o i pos) (gSub to ti t) := by
  intro pins s σ H v u Q I r h
  rw [ha]
  refine wpAny_bind (wpAny_holding (thn (ho pins s σ H _ I h) fun ov s1 ⟨x, H1, I1, r1, q1⟩ => ?_))
  refine wpAny_bind (wpAny_holding (thn (hi pins s1 σ H1 _ I1 q1) fun iv s2 ⟨y, H2, I2, r2, q2⟩ => ?_))
  refine wpAny_bind (wpAny_standAt (wpAny_bind (wpAny_holding (thn (hs pins s2 σ H2 x y v ov iv u _ I2 r1 r2 r q2) fun _ s3 ⟨H3, I3, q3⟩ => ?_))))
  exact wpAny_release ⟨σ, H3, I3, q3⟩
def tAsg (te : TE) (g : TG) : TS := fun D σ H => te σ H fun x H1 => g x σ H1 D.nx
theorem ps_asg {tg e : Expr} {te : TE} {g : TG} (he : PE X e te) (hg : PG X tg g) (hs : swapsWithSole [tg] e pos.line X.env = pure false := by rfl) (hw : swappedStores [tg] e X.env = pure none := by rfl)
    (h1 : (assignEach [tg] X.env).map (·.2) = [assign tg X.env] := by rfl) : PS X (.Assign [tg] e pos) (tAsg te g) := by
  intro pins s σ H D I h
  refine wpAny_Assign_stores (thn (he pins s σ H _ I h) fun v s1 ⟨x, H1, I1, r1, q1⟩ => ?_) hs hw
  rw [h1]
  exact thn (hg pins s1 σ H1 x v _ I1 r1 q1) fun _ s2 q => q
theorem ps_set {i : Nat} {x : Str} {e : Expr} {te : TE} {pos' : Pos} (hN : X.N.Nodup) (hi : X.N[i]? = some x) (hx : Loc X.env.scope x) (he : PE X e te) (hs : swapsWith e (some (.Name x pos')) pos.line X.env = pure false := by rfl) (hf : X.fn x = true ∨ X.env.scope.names.lookup x = some .local := by first | exact .inl rfl | exact .inr rfl | assumption) :
    PS X (.Assign [.Name x pos'] e pos) (tAsg te (gName i)) := by
  intro pins s σ H D I h
  refine wpAny_Assign_Name (thn (he pins s σ H _ I h) fun v s1 ⟨y, H1, I1, r1, q1⟩ => ?_) hs
  exact store_ok I1 hN hi hx r1 (fun s2 I2 => ⟨_, H1, I2, q1⟩) hf
def tPar (i j : Nat) (ta : TA) : TS := fun D σ H => ta σ H fun vs H1 => ∃ v w, vs = [v, w] ∧ D.nx ((σ.set i (some v)).set j (some w)) H1
theorem ps_par {i j : Nat} {x y : Str} {a b : Expr} {ta : TA} {px py pt : Pos} {kt k2 pt2} (hc : X.calm = true) (hN : X.N.Nodup) (hi : X.N[i]? = some x) (hj : X.N[j]? = some y) (hij : i ≠ j)
    (hx : X.env.scope.names.lookup x = some .local) (hy : X.env.scope.names.lookup y = some .local) (ha : PA X [a, b] ta)
    (hw : swappedStores [.Tuple [.Name x px, .Name y py] kt pt] (.Tuple [a, b] k2 pt2) X.env = pure (some [x, y]))
    (hs : swapsWithSole [.Tuple [.Name x px, .Name y py] kt pt] (.Tuple [a, b] k2 pt2) pos.line X.env = pure false := by rfl) :
    PS X (.Assign [.Tuple [.Name x px, .Name y py] kt pt] (.Tuple [a, b] k2 pt2) pos) (tPar i j ta) := by
  intro pins s σ H D I h
  rw [exec_Assign_arm]
  refine wpAny_bind (wpAny_standAt ?_)
  rw [hs]
  refine wpAny_bind (wpAny_pure ?_)
  rw [if_neg (by decide)]
  refine wpAny_bind (Tuple_ (thn (ha _ pins s σ H _ I h) fun us s1 ⟨vs, H1, I1, r1, q1⟩ => ?_))
  obtain ⟨v, w, e1, q1⟩ := q1
  subst e1
  obtain ⟨u1, u2, rfl, rv, rw'⟩ : ∃ u1 u2, us = [u1, u2] ∧ RelV v u1 ∧ RelV w u2 := by
    cases r1 with
    | cons p q =>
      cases q with
      | cons p' q' =>
        cases q'
        exact ⟨_, _, rfl, p, p'⟩
  refine wpAny_newObj_type ?_ (by show 2 ≤ sizeLine; decide)
  have I2 : Inv X pins σ H1 { s1 with heap := s1.heap.push { cls := .type "tuple", data := .seq [u1, u2].toArray } } := I1.kept (t' := s1.toks) fun b o e => Heap.get?_push_of_some _ e
  rw [hw]
  refine wpAny_bind (wpAny_pure ?_)
  show wpAny (model X.prog X.w) X.A (do rule "assign.swapped-stores"; let items ← unpackItems (.ref s1.heap.objs.size) 2 none; assignInOrder [fun v => bindName X.env y v, fun v => bindName X.env x v] items.reverse; pure Flow.next) _ _ _
  refine wpAny_bind (wpAny_rule (wpAny_bind (unpackItems_tuple (items := #[u1, u2]) (I.ok.hd hc) (IsTup.new s1.heap _) fun h' hx' => ?_)))
  have I3 := I2.kept (h' := h') (t' := s1.toks) fun b o e => hx' b o (Nat.ne_of_lt (Heap.lt_size e)) e
  show wpAny _ _ (assignInOrder [fun v => bindName X.env y v, fun v => bindName X.env x v] [u2, u1] >>= fun _ => pure Flow.next) _ _ _
  refine wpAny_bind (assignInOrder_cons (wpAny_bindName (store_ok I3 hN hj (.inl hy) rw' (fun s2 I4 => ?_) (.inr hy))))
  refine assignInOrder_cons (wpAny_bindName (store_ok I4 hN hi (.inl hx) rv (fun s3 I5 => assignInOrder_nil (wpAny_pure ?_)) (.inr hx)))
  rw [List.set_comm _ _ (Ne.symm hij)] at I5
  exact ⟨_, H1, I5, q1⟩
end

section
variable {X : Cx} {pos : Pos}
def tWhile (c : TT) (tb : TS) : TS := fun D σ H => ∃ W : Nat → St → Hp → Prop, (∃ m, W m σ H) ∧ ∀ m σ H, W m σ H →
  c σ H fun b H1 => if b = true then ∃ N : St → Hp → Prop, (∀ σ' H', N σ' H' → ∃ m', m' < m ∧ W m' σ' H') ∧ tb { D with nx := N, ct := N, bk := D.nx } σ H1 else D.nx σ H1
theorem ps_while {c : Expr} {body : List Stmt} {tc : TT} {tb : TS} (hp : PassesOwn (model X.prog X.w) X.A X.env X.xe) (hc : PT X c tc) (hb : PSs X body tb) : PS X (.While c body [] pos) (tWhile tc tb) := by
  intro pins s σ H D I h
  obtain ⟨W, ⟨m0, w0⟩, turn⟩ := h
  refine wpAny_While (codeAny_whileLoop (fun n s' => ∃ σ' H', Inv X pins σ' H' s' ∧ W n σ' H') ?_ m0 ⟨σ, H, I, w0⟩)
  rintro n s1 ⟨σ1, H1, I1, w1⟩
  refine wpAny_passesOwn hp (thn (hc pins s1 σ1 H1 _ I1 (turn n σ1 H1 w1)) fun b s2 ⟨H2, I2, q2⟩ => ?_)
  cases b with
  | true =>
    obtain ⟨N, hN, q2⟩ := q2
    rw [if_pos rfl]
    refine wpAny_passesOwn hp (thn (hb pins s2 σ1 H2 _ I2 q2) fun f s3 q3 => ?_)
    cases f with
    | next =>
      obtain ⟨σ3, H3, I3, n3⟩ := q3
      obtain ⟨m', hm, w3⟩ := hN σ3 H3 n3
      exact ⟨m', hm, σ3, H3, I3, w3⟩
    | cont =>
      obtain ⟨σ3, H3, I3, n3⟩ := q3
      obtain ⟨m', hm, w3⟩ := hN σ3 H3 n3
      exact ⟨m', hm, σ3, H3, I3, w3⟩
    | brk => exact q3
    | ret v => exact q3
  | false =>
    rw [if_neg Bool.false_ne_true]
    exact wpAny_execs_nil ⟨σ1, H2, I2, q2⟩
end

structure It where
  go : Nat → Hp → Prop
  yld : Nat → Hp → V → Hp → Prop
  stop : Nat → Hp → Prop
def FpOk (X : Cx) (pins : List (Addr × Obj)) (H : Hp) (b : Addr) : Prop :=
  H b = none ∧ b ≠ X.env.locals ∧ b ∉ X.fs ∧ (b ∈ X.ex ∨ X.s₀.heap.objs.size ≤ b) ∧ (∀ x c, X.env.cells.lookup x = some c → c ≠ b) ∧ ∀ p ∈ X.pn ++ pins, p.1 ≠ b
theorem Inv.fpOk {X : Cx} {pins : List (Addr × Obj)} {σ : St} {H H' : Hp} {s : Shared} {b : Addr} (I : Inv X pins σ H s) (hb : s.heap.objs.size ≤ b) (hn : H' b = none) : FpOk X pins H' b := by
  refine ⟨hn, Nat.ne_of_gt (Nat.lt_of_lt_of_le I.lt hb), I.nofs hb, .inr (Nat.le_trans I.sz hb), fun x c e z => ?_, fun p hp z => ?_⟩
  · obtain ⟨v, q⟩ := I.cell x c e
    exact absurd (Nat.lt_of_lt_of_le q.lt (by rw [z]; exact hb)) (Nat.lt_irrefl _)
  · exact absurd (Nat.lt_of_lt_of_le (Heap.lt_size (I.pin p hp).1) (by rw [z]; exact hb)) (Nat.lt_irrefl _)
structure Turn (P : Program) (w : World) (K : PySem.W.Frag) (tg : Expr) (J : It) (fp : List Addr) (it : Addr) (tn : Nat → Heap → Prop) : Prop where
  mem : it ∈ fp
  obj : ∀ i h, tn i h → ∀ b ∈ fp, ∃ o, h.get? b = some o ∧ ∀ v, o.data ≠ .cell v
  keep : ∀ i h h', tn i h → (∀ b ∈ fp, ∀ o, h.get? b = some o → h'.get? b = some o) → tn i h'
  item : ∀ (X : Cx), X.prog = P → X.w = w → X.K = K → X.calm = true → ∀ (i : Nat) (pins : List (Addr × Obj)) (s : Shared) (σ : St) (H : Hp) (E : Value → Shared → Prop), Inv X pins σ H s → (∀ b ∈ fp, FpOk X pins H b) → tn i s.heap → J.go i H →
    wpAny (model P w) X.A (pyNext (.ref it)) (fun r s1 => ∃ u, r = some u ∧
      wpAny (model P w) X.A (letOwnedTupleGo tg (.ref it) u) (fun _ s2 => ∃ x H', Inv X pins σ H' s2 ∧ RelV x u ∧ J.yld i H x H' ∧ tn (i + 1) s2.heap ∧ ∀ b ∈ fp, H' b = none) E s1) E s
  done : ∀ (X : Cx), X.prog = P → X.w = w → X.K = K → X.calm = true → ∀ (i : Nat) (pins : List (Addr × Obj)) (s : Shared) (σ : St) (H : Hp) (E : Value → Shared → Prop), Inv X pins σ H s → (∀ b ∈ fp, FpOk X pins H b) → tn i s.heap → J.stop i H →
    wpAny (model P w) X.A (pyNext (.ref it)) (fun r s1 => r = none ∧ Inv X pins σ H s1) E s
  self : ∀ (A : Around) (i : Nat) (s : Shared) (Q : Value → Shared → Prop) (E : Value → Shared → Prop), tn i s.heap → Q (.ref it) s → wpAny (model P w) A (pyIter (.ref it)) Q E s
abbrev TI := St → Hp → (It → Hp → Prop) → Prop
def PIE (X : Cx) (pins : List (Addr × Obj)) (σ : St) (tg : Expr) (R : It → Hp → Prop) (itv : Value) (s2 : Shared) : Prop :=
  ∃ (it : Addr) (fp : List Addr) (tn : Nat → Heap → Prop) (J : It) (H' : Hp), itv = .ref it ∧ Inv X pins σ H' s2 ∧ Turn X.prog X.w X.K tg J fp it tn ∧ tn 0 s2.heap ∧ (∀ b ∈ fp, FpOk X pins H' b) ∧ R J H'
def PI (X : Cx) (tg iter : Expr) (wi : TI) : Prop :=
  ∀ (pins : List (Addr × Obj)) (s : Shared) (σ : St) (H : Hp) (R : It → Hp → Prop), Inv X pins σ H s → wi σ H R →
    wpAny (model X.prog X.w) X.A (eval iter X.env) (fun v s1 => wpAny (model X.prog X.w) X.A (pyIter v) (PIE X pins σ tg R) X.xe s1) X.xe s

theorem go_of {M : Model} {A : Around} {E : Value → Shared → Prop} {s : Shared} {tg : Expr} {it : Addr} {u : Value} {o : Obj} {n : String} {vs : Array Value} {Q : Unit → Shared → Prop} (ho : s.heap.get? it = some o) (hc : o.cls = .type n) (hd : o.data = .fields vs)
    (hn : ["enumerate", "zip", "dict_itemiterator", "dict_reverseitemiterator", "odict_iterator", "itertools.zip_longest", "itertools.pairwise"].contains n = false) (hQ : Q () s) : wpAny M A (letOwnedTupleGo tg (.ref it) u) Q E s := by
  unfold letOwnedTupleGo
  cases tg <;> first
    | exact wpAny_pure hQ
    | (cases u <;> first
        | exact wpAny_pure hQ
        | (refine wpAny_bind (wpAny_load ho ?_)
           rw [hc, hd]
           show wpAny M A (if (["enumerate", "zip", "dict_itemiterator", "dict_reverseitemiterator", "odict_iterator", "itertools.zip_longest", "itertools.pairwise"].contains n && vs[0]? == some (rawInt _)) = true then _ else _) Q E s
           rw [if_neg (by intro h; rw [hn, Bool.false_and] at h; cases h)]
           exact wpAny_pure hQ))

def Itl (K : PySem.W.Frag) (a : Addr) : It :=
  ⟨fun i H => ∃ xs x, SqL K H a xs ∧ xs[i]? = some x, fun i H x H' => H' = H ∧ ∀ xs, SqL K H a xs → xs[i]? = some x, fun i H => ∃ xs, SqL K H a xs ∧ xs.length ≤ i⟩
def Itt (K : PySem.W.Frag) (a : Addr) : It :=
  ⟨fun i H => ∃ xs x, SqT K H a xs ∧ xs[i]? = some x, fun i H x H' => H' = H ∧ ∀ xs, SqT K H a xs → xs[i]? = some x, fun i H => ∃ xs, SqT K H a xs ∧ xs.length ≤ i⟩
def Itr (lo : Int) (n : Nat) : It := ⟨fun i _ => i < n, fun i H x H' => H' = H ∧ x = .int (lo + i), fun i _ => n ≤ i⟩
theorem turn_list {P : Program} {w : World} {K : PySem.W.Frag} {tg : Expr} (a it : Addr) : Turn P w K tg (Itl K a) [it] it (fun i h => h.IsListIter it a i) where
  mem := by simp
  obj := fun i h st b hb => by
    have e : b = it := by simpa using hb
    subst e
    obtain ⟨o, e, c, d⟩ := st
    exact ⟨o, e, fun v z => by rw [d] at z; cases z⟩
  keep := fun i h h' st k => st.at fun o e => k it (by simp) o e
  item := by
    intro X hP hw hK hc i pins s σ H E I hf st hg
    subst hP hw hK
    obtain ⟨xs, x, hq, hx⟩ := hg
    obtain ⟨its, rv, p, hz⟩ := I.list hq
    obtain ⟨u, hu, ru⟩ := rv.get hx
    obtain ⟨f0, f1, f2, f3, f4, f5⟩ := hf it (by simp)
    refine wpAny_pyNext_list_item st p.isList (x := u) (by simpa using hu) fun h' st' sb => ?_
    have I1 : Inv X pins σ H { s with heap := h' } := I.turned (t' := s.toks) (fun b o hb e => (sb.2 b hb).trans e) f0 f1 f3 f4 f5
    obtain ⟨o, e, c, d⟩ := id st'
    exact ⟨u, rfl, go_of (s := { s with heap := h' }) e c d (by decide) ⟨x, H, I1, ru, ⟨rfl, fun ys hy => by rw [I.list_inj hy hq]; exact hx⟩, st', fun b hb => (hf b hb).1⟩⟩
  done := by
    intro X hP hw hK hc i pins s σ H E I hf st hg
    subst hP hw hK
    obtain ⟨xs, hq, hx⟩ := hg
    obtain ⟨its, rv, p, hz⟩ := I.list hq
    obtain ⟨f0, f1, f2, f3, f4, f5⟩ := hf it (by simp)
    have hl := rv.length
    exact wpAny_pyNext_list_end (I.ok.hd hc) st p.isList (by simp; omega) fun h' eb => ⟨rfl, I.turned (t' := s.toks) (fun b o hb e => eb b o hb e) f0 f1 f3 f4 f5⟩
  self := fun _ _ _ _ _ st h => wpAny_pyIter_listiter st h
theorem turn_tuple {P : Program} {w : World} {K : PySem.W.Frag} {tg : Expr} (a it : Addr) : Turn P w K tg (Itt K a) [it] it (fun i h => h.IsTupleIter it a i) where
  mem := by simp
  obj := fun i h st b hb => by
    have e : b = it := by simpa using hb
    subst e
    obtain ⟨o, e, c, d⟩ := st
    exact ⟨o, e, fun v z => by rw [d] at z; cases z⟩
  keep := fun i h h' st k => st.at fun o e => k it (by simp) o e
  item := by
    intro X hP hw hK hc i pins s σ H E I hf st hg
    subst hP hw hK
    obtain ⟨xs, x, hq, hx⟩ := hg
    obtain ⟨its, rv, p, hz⟩ := I.tuple hq
    obtain ⟨u, hu, ru⟩ := rv.get hx
    obtain ⟨f0, f1, f2, f3, f4, f5⟩ := hf it (by simp)
    refine wpAny_pyNext_tuple_item st (show s.heap.IsTuple a its.toArray from p) (x := u) (by simpa using hu) fun h' st' sb => ?_
    have I1 : Inv X pins σ H { s with heap := h' } := I.turned (t' := s.toks) (fun b o hb e => (sb.2 b hb).trans e) f0 f1 f3 f4 f5
    obtain ⟨o, e, c, d⟩ := id st'
    exact ⟨u, rfl, go_of (s := { s with heap := h' }) e c d (by decide) ⟨x, H, I1, ru, ⟨rfl, fun ys hy => by rw [I.tuple_inj hy hq]; exact hx⟩, st', fun b hb => (hf b hb).1⟩⟩
  done := by
    intro X hP hw hK hc i pins s σ H E I hf st hg
    subst hP hw hK
    obtain ⟨xs, hq, hx⟩ := hg
    obtain ⟨its, rv, p, hz⟩ := I.tuple hq
    obtain ⟨f0, f1, f2, f3, f4, f5⟩ := hf it (by simp)
    have hl := rv.length
    exact wpAny_pyNext_tuple_end (I.ok.hd hc) st (show s.heap.IsTuple a its.toArray from p) (by simp; omega) fun h' eb => ⟨rfl, I.turned (t' := s.toks) (fun b o hb e => eb b o hb e) f0 f1 f3 f4 f5⟩
  self := fun _ _ _ _ _ st h => wpAny_pyIter_tupleiter st h
theorem turn_range {P : Program} {w : World} {K : PySem.W.Frag} {tg : Expr} (it : Addr) (lo : Int) (n : Nat) : Turn P w K tg (Itr lo n) [it] it (fun i h => IsRangeIter h it (lo + (i : Nat) * 1) ((n : Int) - (i : Nat)) 1) where
  mem := by simp
  obj := fun i h st b hb => by
    have e : b = it := by simpa using hb
    subst e
    exact ⟨_, st, fun v z => by
      have z' : Data.fields _ = Data.cell v := z
      cases z'⟩
  keep := fun i h h' st k => k it (by simp) _ st
  item := by
    intro X hP hw hK hc i pins s σ H E I hf st hg
    subst hP hw hK
    obtain ⟨f0, f1, f2, f3, f4, f5⟩ := hf it (by simp)
    have W := Walks.range (prog := X.prog) (w := X.w) (I.ok.hd hc) it lo 1 n
    refine W.item i s _ _ hg st fun v h' tk hv st' kk => ?_
    obtain ⟨t, rfl⟩ := hv
    have I1 : Inv X pins σ H { s with heap := h', toks := tk } := I.turned (fun b o hb e => kk b o (by simpa using hb) e) f0 f1 f3 f4 f5
    refine ⟨_, rfl, go_of (s := { s with heap := h', toks := tk }) (n := "range_iterator") st' rfl rfl (by decide) ⟨.int (lo + i), H, I1, ⟨t, ?_⟩, ⟨rfl, rfl⟩, st', fun b hb => (hf b hb).1⟩⟩
    rw [Int.mul_one]
  done := by
    intro X hP hw hK hc i pins s σ H E I hf st hg
    subst hP hw hK
    obtain ⟨f0, f1, f2, f3, f4, f5⟩ := hf it (by simp)
    exact wpAny_pyNext_range_end (I.ok.hd hc) st (by have : n ≤ i := hg; omega) fun h' eb => ⟨rfl, I.turned (t' := s.toks) (fun b o hb e => eb b o hb e) f0 f1 f3 f4 f5⟩
  self := fun _ _ _ _ _ st h => wpAny_pyIter_rangeiter st h
end L2

namespace L2
open PySem PySem.Spec PyProof.Rows
section
variable {X : Cx} {tg : Expr}
def iList (K : PySem.W.Frag) (tl : TE) : TI := fun σ H R => tl σ H fun x H1 => ∃ a, x = .ref a ∧ (∃ xs, SqL K H1 a xs) ∧ R (Itl K a) H1
def iTup (K : PySem.W.Frag) (tl : TE) : TI := fun σ H R => tl σ H fun x H1 => ∃ a, x = .ref a ∧ (∃ xs, SqT K H1 a xs) ∧ R (Itt K a) H1
theorem pi_list {l : Expr} {tl : TE} (hl : PE X l tl) : PI X tg l (iList X.K tl) := by
  intro pins s σ H R I h
  refine thn (hl pins s σ H _ I h) fun v s1 ⟨x, H1, I1, r1, q1⟩ => ?_
  obtain ⟨a, e, ⟨xs, hq⟩, q⟩ := q1
  subst e
  cases r1
  obtain ⟨its, rv, p, hz⟩ := I1.list hq
  refine wpAny_pyIter_list p.isList ?_
  refine ⟨s1.heap.objs.size, [s1.heap.objs.size], _, _, H1, rfl, I1.kept (t' := s1.toks) fun b o e => Heap.get?_push_of_some _ e, turn_list a _, ⟨_, Heap.get?_push_size _ rfl, rfl, rfl⟩, fun b hb => ?_, q⟩
  have e : b = s1.heap.objs.size := by simpa using hb
  subst e
  exact I1.fpOk (Nat.le_refl _) (I1.hok.fresh (Nat.le_refl _))
theorem pi_tup {l : Expr} {tl : TE} (hl : PE X l tl) : PI X tg l (iTup X.K tl) := by
  intro pins s σ H R I h
  refine thn (hl pins s σ H _ I h) fun v s1 ⟨x, H1, I1, r1, q1⟩ => ?_
  obtain ⟨a, e, ⟨xs, hq⟩, q⟩ := q1
  subst e
  cases r1
  obtain ⟨its, rv, p, hz⟩ := I1.tuple hq
  refine wpAny_pyIter_tuple (show s1.heap.IsTuple a its.toArray from p) ?_
  refine ⟨s1.heap.objs.size, [s1.heap.objs.size], _, _, H1, rfl, I1.kept (t' := s1.toks) fun b o e => Heap.get?_push_of_some _ e, turn_tuple a _, ⟨_, Heap.get?_push_size _ rfl, rfl, rfl⟩, fun b hb => ?_, q⟩
  have e : b = s1.heap.objs.size := by simpa using hb
  subst e
  exact I1.fpOk (Nat.le_refl _) (I1.hok.fresh (Nat.le_refl _))
theorem range_it {pins : List (Addr × Obj)} {σ : St} {H : Hp} {s : Shared} {R : It → Hp → Prop} {E : Value → Shared → Prop} {lo hi : Int} {t u v : Tok} {tk : Nat} (I : Inv X pins σ H s) (h1 : -(2 ^ 62) ≤ lo) (h2 : lo < 2 ^ 62) (h3 : -(2 ^ 62) ≤ hi) (h4 : hi < 2 ^ 62)
    (q : R (Itr lo (hi - lo).toNat) H) : wpAny (model X.prog X.w) X.A (pyIter (.ref s.heap.objs.size)) (PIE X pins σ tg R) E { s with heap := s.heap.push { cls := .type "range", data := .fields #[.int lo t, .int hi u, .int 1 v] }, toks := tk } := by
  refine wpAny_pyIter_range (IsRange.new ..) (small_one h1 h2 h3 h4) ?_
  have I1 : Inv X pins σ H { s with heap := s.heap.push { cls := .type "range", data := .fields #[.int lo t, .int hi u, .int 1 v] }, toks := tk } := I.kept fun b o e => Heap.get?_push_of_some _ e
  refine ⟨(s.heap.push { cls := .type "range", data := .fields #[.int lo t, .int hi u, .int 1 v] }).objs.size, [(s.heap.push { cls := .type "range", data := .fields #[.int lo t, .int hi u, .int 1 v] }).objs.size], _, _, H, rfl,
    I1.kept (t' := tk) fun b o e => Heap.get?_push_of_some _ e, turn_range _ lo (hi - lo).toNat, ?_, fun b hb => ?_, q⟩
  · have e1 : lo + ((0 : Nat) : Int) * 1 = lo := by simp
    have e2 : (((hi - lo).toNat : Nat) : Int) - ((0 : Nat) : Int) = Builtin.Range.rangeSize lo hi 1 := by rw [rangeSize_one]; split <;> omega
    show IsRangeIter _ _ (lo + ((0 : Nat) : Int) * 1) ((((hi - lo).toNat : Nat) : Int) - ((0 : Nat) : Int)) 1
    rw [e1, e2]
    exact Heap.get?_push_size _ rfl
  · have e : b = (s.heap.push { cls := .type "range", data := .fields #[.int lo t, .int hi u, .int 1 v] }).objs.size := by simpa using hb
    subst e
    exact I1.fpOk (Nat.le_refl _) (I1.hok.fresh (Nat.le_refl _))
def iRng1 (ta : TA) : TI := fun σ H R => ta σ H fun vs H1 => ∃ j : Int, vs = [.int j] ∧ -(2 ^ 62) ≤ j ∧ j < 2 ^ 62 ∧ R (Itr 0 j.toNat) H1
theorem pi_range1 {a : Expr} {ta : TA} {p pos : Pos} (hg : Gl X "range") (hm : X.mg "range" = none) (ha : PA X [a] ta) (hs : starEach [a] X.env = [(false, eval a X.env)] := by rfl) : PI X tg (.Call (.Name "range" p) [a] [] pos) (iRng1 ta) := by
  intro pins s σ H R I h
  refine Call_ (ld_blt I hg hm boot_range (PyProof.Rows.callWith_type1 (thn (ha pos pins s σ H _ I h) fun us s1 ⟨vs, H1, I1, r1, q1⟩ => ?_) hs rfl))
  obtain ⟨j, e, q1, q2, q⟩ := q1
  subst e
  cases r1 with
  | cons r rr =>
    cases rr
    obtain ⟨t, rfl⟩ := r
    exact call_range_1 (range_it I1 (by omega) (by omega) q1 q2 (by simpa using q))
def tFor (wi : TI) (g : TG) (tb : TS) : TS := fun D σ H => wi σ H fun J H1 => ∃ W : Nat → Nat → St → Hp → Prop, (∃ m, W 0 m σ H1) ∧ ∀ i m σ H, W i m σ H →
  (J.stop i H ∧ D.nx σ H) ∨ (J.go i H ∧ ∃ N : St → Hp → Prop, (∀ σ' H', N σ' H' → ∃ m', m' < m ∧ W (i + 1) m' σ' H') ∧ ∀ x H', J.yld i H x H' → g x σ H' fun σ2 H2 => tb { D with nx := N, ct := N, bk := D.nx } σ2 H2)
def pinsAt (fp : List Addr) (h : Heap) : List (Addr × Obj) := fp.filterMap fun b => (h.get? b).map fun o => (b, o)
theorem mem_pinsAt {fp : List Addr} {h : Heap} {b : Addr} {o : Obj} (hb : b ∈ fp) (e : h.get? b = some o) : (b, o) ∈ pinsAt fp h := List.mem_filterMap.mpr ⟨b, hb, by rw [e]; rfl⟩
theorem of_pinsAt {fp : List Addr} {h : Heap} {p : Addr × Obj} (hp : p ∈ pinsAt fp h) : p.1 ∈ fp ∧ h.get? p.1 = some p.2 := by
  obtain ⟨b, hb, e⟩ := List.mem_filterMap.mp hp
  cases q : h.get? b with
  | none => rw [q] at e; cases e
  | some o =>
    rw [q] at e
    have e' : (b, o) = p := Option.some.inj e
    subst e'
    exact ⟨hb, q⟩
theorem Inv.pinned {pins : List (Addr × Obj)} {σ : St} {H : Hp} {s : Shared} {fp : List Addr} (I : Inv X pins σ H s) (hf : ∀ b ∈ fp, FpOk X pins H b) (ho : ∀ b ∈ fp, ∃ o, s.heap.get? b = some o ∧ ∀ v, o.data ≠ .cell v) : Inv X (pins ++ pinsAt fp s.heap) σ H s :=
  I.pins_of fun p hp => (List.mem_append.mp hp).elim (fun z => I.pin p (List.mem_append_right _ z)) fun z => by
    obtain ⟨hb, e⟩ := of_pinsAt z
    obtain ⟨f0, f1, f2, _⟩ := hf p.1 hb
    obtain ⟨o, e', d⟩ := ho p.1 hb
    rw [e] at e'; cases e'
    exact ⟨e, f0, f1, f2, d⟩
theorem Inv.unpinned {pins pl : List (Addr × Obj)} {σ : St} {H : Hp} {s : Shared} (I : Inv X (pins ++ pl) σ H s) : Inv X pins σ H s := I.pins_of fun p hp => I.pin p (List.mem_append_right _ (List.mem_append_left _ hp))
theorem ps_for {iter : Expr} {body : List Stmt} {wi : TI} {g : TG} {tb : TS} {pos : Pos} (hp : PassesOwn (model X.prog X.w) X.A X.env X.xe) (hc : X.calm = true) (hi : PI X tg iter wi) (hg : PG X tg g) (hb : PSs X body tb)
    (hs : ∀ x, foldedSetIterable iter X.env x = pure x := by intro _; rfl) : PS X (.For tg iter body [] pos) (tFor wi g tb) := by
  intro pins s σ H D I h
  refine wpAny_For (thn (hi pins s σ H _ I h) fun v s1 h1 => thn h1 fun itv s2 h2 => ?_) hs
  obtain ⟨it, fp, tn, J, H2, e, I2, T, st2, f2, W, ⟨m0, w0⟩, turn⟩ := h2
  subst e
  -- what stays true of the iterator's objects through the loop
  have stat : ∀ {H' : Hp}, (∀ b ∈ fp, H' b = none) → ∀ b ∈ fp, FpOk X pins H' b := fun hn b hb => ⟨hn b hb, (f2 b hb).2⟩
  refine codeAny_forLoop_any (fun n s' => ∃ i σ' H', Inv X pins σ' H' s' ∧ tn i s'.heap ∧ (∀ b ∈ fp, H' b = none) ∧ W i n σ' H') ?_ m0 ⟨0, σ, H2, I2, st2, fun b hb => (f2 b hb).1, w0⟩
  rintro n s3 ⟨i, σ3, H3, I3, st3, fr3, w3⟩
  rcases turn i n σ3 H3 w3 with ⟨stop, qn⟩ | ⟨go, N, hN, step⟩
  · refine wpAny_passesOwn hp (thn (T.done X rfl rfl rfl hc i pins s3 σ3 H3 X.xe I3 (stat fr3) st3 stop) fun r s4 ⟨hr, I4⟩ => ?_)
    subst hr
    exact wpAny_execs_nil ⟨σ3, H3, I4, qn⟩
  · refine wpAny_passesOwn hp (thn (T.item X rfl rfl rfl hc i pins s3 σ3 H3 X.xe I3 (stat fr3) st3 go) fun r s4 ⟨u, hr, h4⟩ => ?_)
    subst hr
    refine wpAny_passesOwn hp (thn h4 fun _ s5 ⟨x, H5, I5, r5, y5, st5, fr5⟩ => ?_)
    have I5' := I5.pinned (stat fr5) (T.obj _ _ st5)
    refine wpAny_passesOwn hp (thn (hg _ s5 σ3 H5 x u _ I5' r5 (step x H5 y5)) fun _ s6 ⟨σ6, H6, I6, q6⟩ => ?_)
    refine wpAny_passesOwn hp (thn (hb _ s6 σ6 H6 _ I6 q6) fun f s7 q7 => ?_)
    have again : ∀ {σ7 : St} {H7 : Hp}, Inv X (pins ++ pinsAt fp s5.heap) σ7 H7 s7 → N σ7 H7 → ∃ m, m < n ∧ ∃ i σ' H', Inv X pins σ' H' s7 ∧ tn i s7.heap ∧ (∀ b ∈ fp, H' b = none) ∧ W i m σ' H' := fun {σ7 H7} I7 n7 => by
      obtain ⟨m', hm, w7⟩ := hN σ7 H7 n7
      refine ⟨m', hm, i + 1, σ7, H7, I7.unpinned, T.keep _ _ _ st5 fun b hb o e => (I7.pin (b, o) (List.mem_append_right _ (List.mem_append_right _ (mem_pinsAt hb e)))).1, fun b hb => ?_, w7⟩
      obtain ⟨o, e, d⟩ := T.obj _ _ st5 b hb
      exact (I7.pin (b, o) (List.mem_append_right _ (List.mem_append_right _ (mem_pinsAt hb e)))).2.1
    cases f with
    | next => obtain ⟨σ7, H7, I7, n7⟩ := q7; exact again I7 n7
    | cont => obtain ⟨σ7, H7, I7, n7⟩ := q7; exact again I7 n7
    | brk => obtain ⟨σ7, H7, I7, q7⟩ := q7; exact ⟨σ7, H7, I7.unpinned, q7⟩
    | ret v => obtain ⟨x7, σ7, H7, I7, r7, q7⟩ := q7; exact ⟨x7, σ7, H7, I7.unpinned, r7, q7⟩
end

theorem for_tup {K : PySem.W.Frag} {a : Addr} {xs : List V} {g : TG} {tb : TS} {D : Ends} {σ : St} {H : Hp} (Pv : Nat → St → Hp → Prop) (h0 : Pv 0 σ H) (hl : ∀ i σ H, i ≤ xs.length → Pv i σ H → SqT K H a xs)
    (hs : ∀ i x σ H, xs[i]? = some x → Pv i σ H → g x σ H fun σ2 H2 => tb { D with nx := Pv (i + 1), ct := Pv (i + 1), bk := D.nx } σ2 H2) (hd : ∀ σ H, Pv xs.length σ H → D.nx σ H) :
    ∃ W : Nat → Nat → St → Hp → Prop, (∃ m, W 0 m σ H) ∧ ∀ i m σ H, W i m σ H →
      ((Itt K a).stop i H ∧ D.nx σ H) ∨ ((Itt K a).go i H ∧ ∃ N : St → Hp → Prop, (∀ σ' H', N σ' H' → ∃ m', m' < m ∧ W (i + 1) m' σ' H') ∧ ∀ x H', (Itt K a).yld i H x H' → g x σ H' fun σ2 H2 => tb { D with nx := N, ct := N, bk := D.nx } σ2 H2) := by
  refine ⟨fun i m σ H => m = xs.length - i ∧ i ≤ xs.length ∧ Pv i σ H, ⟨xs.length, by simp, Nat.zero_le _, h0⟩, ?_⟩
  rintro i m σ H ⟨rfl, hi, p⟩
  have q := hl i σ H hi p
  by_cases hlt : i < xs.length
  · refine .inr ⟨⟨xs, xs[i], q, by simp [hlt]⟩, Pv (i + 1), fun σ' H' p' => ⟨xs.length - (i + 1), by omega, rfl, hlt, p'⟩, fun x H' y => ?_⟩
    obtain ⟨e, y⟩ := y
    subst e
    exact hs i x σ _ (y xs q) p
  · have e : i = xs.length := by omega
    subst e
    exact .inl ⟨⟨xs, q, Nat.le_refl _⟩, hd σ H p⟩
theorem for_range {lo : Int} {n : Nat} {g : TG} {tb : TS} {D : Ends} {σ : St} {H : Hp} (Pv : Nat → St → Hp → Prop) (h0 : Pv 0 σ H)
    (hs : ∀ i σ H, i < n → Pv i σ H → g (.int (lo + i)) σ H fun σ2 H2 => tb { D with nx := Pv (i + 1), ct := Pv (i + 1), bk := D.nx } σ2 H2) (hd : ∀ σ H, Pv n σ H → D.nx σ H) :
    ∃ W : Nat → Nat → St → Hp → Prop, (∃ m, W 0 m σ H) ∧ ∀ i m σ H, W i m σ H →
      ((Itr lo n).stop i H ∧ D.nx σ H) ∨ ((Itr lo n).go i H ∧ ∃ N : St → Hp → Prop, (∀ σ' H', N σ' H' → ∃ m', m' < m ∧ W (i + 1) m' σ' H') ∧ ∀ x H', (Itr lo n).yld i H x H' → g x σ H' fun σ2 H2 => tb { D with nx := N, ct := N, bk := D.nx } σ2 H2) := by
  refine ⟨fun i m σ H => m = n - i ∧ i ≤ n ∧ Pv i σ H, ⟨n, by simp, Nat.zero_le _, h0⟩, ?_⟩
  rintro i m σ H ⟨rfl, hi, p⟩
  by_cases hlt : i < n
  · refine .inr ⟨hlt, Pv (i + 1), fun σ' H' p' => ⟨n - (i + 1), by omega, rfl, hlt, p'⟩, fun x H' y => ?_⟩
    obtain ⟨e, y⟩ := y
    subst e y
    exact hs i σ _ hlt p
  · have e : i = n := by omega
    subst e
    exact .inl ⟨Nat.le_refl _, hd σ H p⟩
end L2

namespace L2
open PySem PySem.Spec PyProof.Rows

abbrev R2 := V → V → Hp → VK → Prop
def OpR (X : Cx) (f : Value → Value → Sem Value) (r : R2) : Prop :=
  ∀ (pins : List (Addr × Obj)) (s : Shared) (σ : St) (H : Hp) (x y : V) (v u : Value) (Q : VK), Inv X pins σ H s → RelV x v → RelV y u → r x y H Q →
    wpAny (model X.prog X.w) X.A (f v u) (EP X pins σ Q) X.xe s
def UnR (X : Cx) (f : Value → Sem Value) (r : V → Hp → VK → Prop) : Prop :=
  ∀ (pins : List (Addr × Obj)) (s : Shared) (σ : St) (H : Hp) (x : V) (v : Value) (Q : VK), Inv X pins σ H s → RelV x v → r x H Q →
    wpAny (model X.prog X.w) X.A (f v) (EP X pins σ Q) X.xe s
def CallR (X : Cx) (f : Value) (r : List V → Hp → VK → Prop) : Prop :=
  ∀ (pins : List (Addr × Obj)) (s : Shared) (σ : St) (H : Hp) (xs : List V) (us : List Value) (Q : VK), Inv X pins σ H s → Vals xs us → r xs H Q →
    wpAny (model X.prog X.w) X.A (call f us) (EP X pins σ Q) X.xe s
def tOp (r : R2) (ta tb : TE) : TE := fun σ H Q => ta σ H fun x H1 => tb σ H1 fun y H2 => r x y H2 Q
def tUn (r : V → Hp → VK → Prop) (ta : TE) : TE := fun σ H Q => ta σ H fun x H1 => r x H1 Q
def rI (C : Int → Int → Prop) (g : Int → Int → V) : R2 := fun x y H Q => ∃ i j, x = .int i ∧ y = .int j ∧ C i j ∧ Q (g i j) H
def rI0 (g : Int → Int → V) : R2 := fun x y H Q => ∃ i j, x = .int i ∧ y = .int j ∧ Q (g i j) H
def rU (g : Int → V) : V → Hp → VK → Prop := fun x H Q => ∃ i, x = .int i ∧ Q (g i) H

section
variable {X : Cx} {a b c : Expr} {ta tb tc : TE} {pos : Pos}

theorem binT (ha : PE X a ta) (hb : PE X b tb) {pins : List (Addr × Obj)} {s : Shared} {σ : St} {H : Hp} {R : V → V → Hp → Prop} (I : Inv X pins σ H s)
    (h : ta σ H fun x H1 => tb σ H1 fun y H2 => R x y H2) {Q : Value → Shared → Prop} {f : Value → Value → Sem Value}
    (hf : ∀ v u s2 x y H2, Inv X pins σ H2 s2 → RelV x v → RelV y u → R x y H2 → wpAny (model X.prog X.w) X.A (f v u) Q X.xe s2) :
    wpAny (model X.prog X.w) X.A (eval a X.env) (fun v s₁ => wpAny (model X.prog X.w) X.A (eval b X.env) (fun u s₂ => wpAny (model X.prog X.w) X.A (f v u) Q X.xe s₂) X.xe s₁) X.xe s := by
  refine thn (ha pins s σ H _ I h) fun v s1 ⟨x, H1, I1, r1, q1⟩ => ?_
  refine thn (hb pins s1 σ H1 _ I1 q1) fun u s2 ⟨y, H2, I2, r2, q2⟩ => ?_
  exact hf v u s2 x y H2 I2 r1 r2 q2

theorem pe_op {op : Operator} {r : R2} (ho : OpR X (binaryOp op) r) (ha : PE X a ta) (hb : PE X b tb) : PE X (.BinOp a op b pos) (tOp r ta tb) := by
  intro pins s σ H Q I h
  exact wpAny_BinOp (binT ha hb I h fun v u s2 x y H2 I2 rx ry q => ho pins s2 σ H2 x y v u Q I2 rx ry q)
theorem pe_un {op : UnaryOp} {r : V → Hp → VK → Prop} (ho : UnR X (unaryOp op) r) (ha : PE X a ta) : PE X (.UnaryOp op a pos) (tUn r ta) := by
  intro pins s σ H Q I h
  exact UnaryOp_ (thn (ha pins s σ H _ I h) fun v s1 ⟨x, H1, I1, r1, q1⟩ => ho pins s1 σ H1 x v Q I1 r1 q1)
theorem opI {f : Value → Value → Sem Value} {C : Int → Int → Prop} {g : Int → Int → Int}
    (rule : ∀ (i j : Int) (t u : Tok) (s : Shared) (Q : Value → Shared → Prop) (E : Value → Shared → Prop), C i j → Q (.int (g i j) s.toks) { s with toks := s.toks + 1 } → wpAny (model X.prog X.w) X.A (f (.int i t) (.int j u)) Q E s) :
    OpR X f (rI C fun i j => .int (g i j)) := by
  intro pins s σ H x y v u Q I rx ry h
  obtain ⟨i, j, rfl, rfl, hc, q⟩ := h
  obtain ⟨t, rfl⟩ := rx
  obtain ⟨t', rfl⟩ := ry
  exact rule i j t t' s _ _ hc ⟨.int (g i j), H, I.tok _, ⟨_, rfl⟩, q⟩
theorem opI0 {f : Value → Value → Sem Value} {g : Int → Int → Int}
    (rule : ∀ (i j : Int) (t u : Tok) (s : Shared) (Q : Value → Shared → Prop) (E : Value → Shared → Prop), Q (.int (g i j) s.toks) { s with toks := s.toks + 1 } → wpAny (model X.prog X.w) X.A (f (.int i t) (.int j u)) Q E s) :
    OpR X f (rI0 fun i j => .int (g i j)) := by
  intro pins s σ H x y v u Q I rx ry h
  obtain ⟨i, j, rfl, rfl, q⟩ := h
  obtain ⟨t, rfl⟩ := rx
  obtain ⟨t', rfl⟩ := ry
  exact rule i j t t' s _ _ ⟨.int (g i j), H, I.tok _, ⟨_, rfl⟩, q⟩
theorem opB0 {f : Value → Value → Sem Value} {g : Int → Int → Bool}
    (rule : ∀ (i j : Int) (t u : Tok) (s : Shared) (Q : Value → Shared → Prop) (E : Value → Shared → Prop), Q (.bool (g i j)) s → wpAny (model X.prog X.w) X.A (f (.int i t) (.int j u)) Q E s) :
    OpR X f (rI0 fun i j => .bl (g i j)) := by
  intro pins s σ H x y v u Q I rx ry h
  obtain ⟨i, j, rfl, rfl, q⟩ := h
  obtain ⟨t, rfl⟩ := rx
  obtain ⟨t', rfl⟩ := ry
  exact rule i j t t' s _ _ ⟨.bl (g i j), H, I, rfl, q⟩

def CDiv (i j : Int) : Prop := 0 < j ∧ j < 1073741824
def CPow (i j : Int) : Prop := 0 ≤ j ∧ j ≤ 1000000 ∧ i.natAbs < 2 ^ 64
def CMul (i j : Int) : Prop := (-(2 ^ 64) < i ∧ i < 2 ^ 64) ∨ (-(2 ^ 64) < j ∧ j < 2 ^ 64)
theorem CMul.ok {i j : Int} (h : CMul i j) : IntMulOk i j := by
  rcases h with ⟨h1, h2⟩ | ⟨h1, h2⟩
  · exact .of_left (intBits_le_64 h1 h2)
  · exact .of_right (intBits_le_64 h1 h2)
theorem op_add : OpR X (binaryOp .Add) (rI0 fun i j => .int (i + j)) := opI0 fun _ _ _ _ _ _ _ q => add_int q
theorem op_sub : OpR X (binaryOp .Sub) (rI0 fun i j => .int (i - j)) := opI0 fun _ _ _ _ _ _ _ q => sub_int q
theorem op_mul : OpR X (binaryOp .Mult) (rI CMul fun i j => .int (i * j)) := opI fun _ _ _ _ _ _ _ hc q => mul_int q hc.ok
theorem op_fdiv : OpR X (binaryOp .FloorDiv) (rI CDiv fun i j => .int (i / j)) := opI fun i j _ _ _ _ _ hc q => by
  have h1 : (0 : Int) < j := hc.1
  have h2 : j < 1073741824 := hc.2
  exact floordiv_int (by omega) (by rw [Int.fdiv_eq_ediv_of_nonneg i (by omega)]; exact q) (.inl (PyProof.noPylong_small (by omega)))
theorem op_mod : OpR X (binaryOp .Mod) (rI (fun _ j => 0 < j) fun i j => .int (i % j)) := opI fun i j _ _ _ _ _ hc q => by
  have h1 : (0 : Int) < j := hc
  exact mod_int' (by omega) (by rw [Int.fmod_eq_emod_of_nonneg i (by omega)]; exact q)
theorem op_modN : OpR X (binaryOp .Mod) (rI (fun _ j => j ≠ 0) fun i j => .int (i.fmod j)) := opI fun _ _ _ _ _ _ _ hc q => mod_int' hc q
theorem op_pow : OpR X (binaryOp .Pow) (rI CPow fun i j => .int (i ^ j.toNat)) := opI fun _ _ _ _ _ _ _ hc q => pow_int_small hc.1 hc.2.1 hc.2.2 q
theorem unI {f : Value → Sem Value} {g : Int → Int}
    (rule : ∀ (i : Int) (t : Tok) (s : Shared) (Q : Value → Shared → Prop) (E : Value → Shared → Prop), Q (.int (g i) s.toks) { s with toks := s.toks + 1 } → wpAny (model X.prog X.w) X.A (f (.int i t)) Q E s) :
    UnR X f (rU fun i => .int (g i)) := by
  intro pins s σ H x v Q I rx h
  obtain ⟨i, rfl, q⟩ := h
  obtain ⟨t, rfl⟩ := rx
  exact rule i t s _ _ ⟨.int (g i), H, I.tok _, ⟨_, rfl⟩, q⟩
theorem un_neg : UnR X (unaryOp .USub) (rU fun i => .int (-i)) := unI fun _ _ _ _ _ q => neg_int q
end

def scal : V → V → Bool
  | .non, .non => true | .non, .int _ => true | .int _, .non => true | .non, .bl _ => true | .bl _, .non => true | .non, .str _ => true | .str _, .non => true
  | .int _, .int _ => true | .bl _, .bl _ => true | .str _, .str _ => true | .byt _, .byt _ => true
  | .int _, .str _ => true | .str _, .int _ => true | .bl _, .str _ => true | .str _, .bl _ => true
  | _, _ => false
def rEq : R2 := fun x y H Q => scal x y = true ∧ Q (.bl (decide (x = y))) H
def rNe : R2 := fun x y H Q => scal x y = true ∧ Q (.bl (!decide (x = y))) H

theorem dec_int {i j : Int} : decide (V.int i = V.int j) = (i == j) := by
  rw [Bool.eq_iff_iff]
  simp
theorem dec_bl {i j : Bool} : decide (V.bl i = V.bl j) = (i == j) := by
  rw [Bool.eq_iff_iff]
  simp
theorem dec_str {i j : Str} : decide (V.str i = V.str j) = (i == j) := by
  rw [Bool.eq_iff_iff]
  simp
theorem dec_byt {i j : Array UInt8} : decide (V.byt i = V.byt j) = (i.toList == j.toList) := by
  rw [Bool.eq_iff_iff]
  cases i
  cases j
  simp

section
variable {X : Cx} {a b c : Expr} {ta tb tc : TE} {pos : Pos}
theorem fin_bl {pins : List (Addr × Obj)} {σ : St} {H : Hp} {s : Shared} {Q : VK} {k k' : Bool} (I : Inv X pins σ H s) (q : Q (.bl k) H) (e : k = k') : EP X pins σ Q (.bool k') s := by
  subst e
  exact ⟨.bl k, H, I, rfl, q⟩
theorem op_eq : OpR X (compareOp .Eq) rEq := by
  intro pins s σ H x y v u Q I rx ry h
  obtain ⟨hs, q⟩ := h
  cases x with
  | non =>
    cases rx
    cases y with
    | non => cases ry; exact PySem.EqNone.eq_none_none (fin_bl I q (by simp))
    | bl j => cases ry; exact PySem.EqNone.eq_none_bool (fin_bl I q (by simp))
    | int j => obtain ⟨t', rfl⟩ := ry; exact PySem.EqNone.eq_none_int (fin_bl I q (by simp))
    | str j => obtain ⟨t', rfl⟩ := ry; exact PySem.EqNone.eq_none_str (fin_bl I q (by simp))
    | _ => exact absurd (show false = true from hs) Bool.false_ne_true
  | bl i =>
    cases rx
    cases y with
    | non => cases ry; exact PySem.EqNone.eq_bool_none (fin_bl I q (by simp))
    | bl j => cases ry; exact eq_bool (fin_bl I q dec_bl)
    | str j => obtain ⟨t', rfl⟩ := ry; exact PySem.EqMixed.eq_bool_str (fin_bl I q (by simp))
    | _ => exact absurd (show false = true from hs) Bool.false_ne_true
  | int i =>
    obtain ⟨t, rfl⟩ := rx
    cases y with
    | non => cases ry; exact PySem.EqNone.eq_int_none (fin_bl I q (by simp))
    | int j => obtain ⟨t', rfl⟩ := ry; exact eq_int (fin_bl I q dec_int)
    | str j => obtain ⟨t', rfl⟩ := ry; exact PySem.EqMixed.eq_int_str (fin_bl I q (by simp))
    | _ => exact absurd (show false = true from hs) Bool.false_ne_true
  | str i =>
    obtain ⟨t, rfl⟩ := rx
    cases y with
    | non => cases ry; exact PySem.EqNone.eq_str_none (fin_bl I q (by simp))
    | bl j => cases ry; exact PySem.EqMixed.eq_str_bool (fin_bl I q (by simp))
    | int j => obtain ⟨t', rfl⟩ := ry; exact PySem.EqMixed.eq_str_int (fin_bl I q (by simp))
    | str j => obtain ⟨t', rfl⟩ := ry; exact eq_str (fin_bl I q dec_str)
    | _ => exact absurd (show false = true from hs) Bool.false_ne_true
  | byt i =>
    obtain ⟨t, rfl⟩ := rx
    cases y with
    | byt j => obtain ⟨t', rfl⟩ := ry; exact PySem.W.eq_bytes (fin_bl I q dec_byt)
    | _ => exact absurd (show false = true from hs) Bool.false_ne_true
  | _ => cases y <;> exact absurd (show false = true from hs) Bool.false_ne_true
theorem op_ne : OpR X (compareOp .NotEq) rNe := by
  intro pins s σ H x y v u Q I rx ry h
  obtain ⟨hs, q⟩ := h
  cases x with
  | non =>
    cases rx
    cases y with
    | non => cases ry; exact PySem.EqNone.ne_none_none (fin_bl I q (by simp))
    | bl j => cases ry; exact PySem.EqNone.ne_none_bool (fin_bl I q (by simp))
    | int j => obtain ⟨t', rfl⟩ := ry; exact PySem.EqNone.ne_none_int (fin_bl I q (by simp))
    | str j => obtain ⟨t', rfl⟩ := ry; exact PySem.EqNone.ne_none_str (fin_bl I q (by simp))
    | _ => exact absurd (show false = true from hs) Bool.false_ne_true
  | bl i =>
    cases rx
    cases y with
    | non => cases ry; exact PySem.EqNone.ne_bool_none (fin_bl I q (by simp))
    | bl j => cases ry; exact ne_bool (fin_bl I q (congrArg not dec_bl))
    | str j => obtain ⟨t', rfl⟩ := ry; exact PySem.EqMixed.ne_bool_str (fin_bl I q (by simp))
    | _ => exact absurd (show false = true from hs) Bool.false_ne_true
  | int i =>
    obtain ⟨t, rfl⟩ := rx
    cases y with
    | non => cases ry; exact PySem.EqNone.ne_int_none (fin_bl I q (by simp))
    | int j => obtain ⟨t', rfl⟩ := ry; exact ne_int (fin_bl I q (congrArg not dec_int))
    | str j => obtain ⟨t', rfl⟩ := ry; exact PySem.EqMixed.ne_int_str (fin_bl I q (by simp))
    | _ => exact absurd (show false = true from hs) Bool.false_ne_true
  | str i =>
    obtain ⟨t, rfl⟩ := rx
    cases y with
    | non => cases ry; exact PySem.EqNone.ne_str_none (fin_bl I q (by simp))
    | bl j => cases ry; exact PySem.EqMixed.ne_str_bool (fin_bl I q (by simp))
    | int j => obtain ⟨t', rfl⟩ := ry; exact PySem.EqMixed.ne_str_int (fin_bl I q (by simp))
    | str j => obtain ⟨t', rfl⟩ := ry; exact ne_str (fin_bl I q (congrArg not dec_str))
    | _ => exact absurd (show false = true from hs) Bool.false_ne_true
  | byt i =>
    obtain ⟨t, rfl⟩ := rx
    cases y with
    | byt j => obtain ⟨t', rfl⟩ := ry; exact PySem.W.ne_bytes (fin_bl I q (congrArg not dec_byt))
    | _ => exact absurd (show false = true from hs) Bool.false_ne_true
  | _ => cases y <;> exact absurd (show false = true from hs) Bool.false_ne_true

theorem op_lt : OpR X (compareOp .Lt) (rI0 fun i j => .bl (decide (i < j))) := opB0 fun _ _ _ _ _ _ _ q => lt_int q
theorem op_gt : OpR X (compareOp .Gt) (rI0 fun i j => .bl (decide (j < i))) := opB0 fun _ _ _ _ _ _ _ q => gt_int q
theorem nomark (b : Expr) {op : CmpOp} (h : op ≠ .In := by decide) (h2 : op ≠ .NotIn := by decide) : behindInMarks op b = false := by
  have e1 : (op == CmpOp.In) = false := by cases op <;> first | rfl | exact absurd rfl h
  have e2 : (op == CmpOp.NotIn) = false := by cases op <;> first | rfl | exact absurd rfl h2
  cases b <;> simp [behindInMarks, e1, e2]
theorem pe_cmpR {op : CmpOp} {r : R2} (ho : OpR X (compareOp op) r) (ha : PE X a ta) (hb : PE X b tb) (hm : behindInMarks op b = false) : PE X (.Compare a [op] [b] pos) (tOp r ta tb) := by
  intro pins s σ H Q I h
  exact wpAny_Compare1 (binT ha hb I h fun v u s2 x y H2 I2 rx ry q => ho pins s2 σ H2 x y v u Q I2 rx ry q) hm
def tTest (t : TE) : TT := fun σ H Q => t σ H fun x H' => ∃ k, x = .bl k ∧ Q k H'
theorem pt_cmpR {op : CmpOp} {r : R2} (ho : OpR X (compareOp op) r) (ha : PE X a ta) (hb : PE X b tb) (hm : behindInMarks op b = false) : PT X (.Compare a [op] [b] pos) (tTest (tOp r ta tb)) := by
  intro pins s σ H Q I h
  refine wpAny_isTrue_Compare1 (thn (ha pins s σ H _ I h) fun v s1 ⟨x, H1, I1, r1, q1⟩ => thn (hb pins s1 σ H1 _ I1 q1) fun u s2 ⟨y, H2, I2, r2, q2⟩ =>
    thn (ho pins s2 σ H2 x y v u _ I2 r1 r2 q2) fun c s3 ⟨z, H3, I3, r3, k, e, q3⟩ => ?_) hm
  subst e
  cases r3
  exact wpAny_truthy_bool ⟨H3, I3, q3⟩
theorem line63 : (sizeLine : Nat) < 2 ^ 63 := by rw [sizeLine_eq]; decide
theorem op_add_str : OpR X (binaryOp .Add) (fun x y H Q => ∃ i j, x = .str i ∧ y = .str j ∧ i.length + j.length ≤ sizeLine ∧ Q (.str (i ++ j)) H) := by
  intro pins s σ H x y v u Q I rx ry h
  obtain ⟨i, j, rfl, rfl, hz, q⟩ := h
  obtain ⟨t, rfl⟩ := rx
  obtain ⟨t', rfl⟩ := ry
  exact add_str (fun t' tk => ⟨.str (i ++ j), H, I.tok _, ⟨_, rfl⟩, q⟩) hz
theorem vals1 {x : V} {us : List Value} (r : Vals [x] us) : ∃ u, us = [u] ∧ RelV x u := by
  cases r with
  | cons r1 r2 => cases r2; exact ⟨_, rfl, r1⟩
theorem vals2 {x y : V} {us : List Value} (r : Vals [x, y] us) : ∃ u w', us = [u, w'] ∧ RelV x u ∧ RelV y w' := by
  cases r with
  | cons r1 r2 =>
    cases r2 with
    | cons r3 r4 => cases r4; exact ⟨_, _, rfl, r1, r3⟩
theorem call_abs : CallR X (.builtin "abs") (fun xs H Q => ∃ i, xs = [.int i] ∧ Q (.int (if i < 0 then -i else i)) H) := by
  intro pins s σ H xs us Q I r h
  obtain ⟨i, rfl, q⟩ := h
  obtain ⟨u, rfl, t, rfl⟩ := vals1 r
  exact call_abs_int fun u tk => ⟨.int (if i < 0 then -i else i), H, I.tok _, ⟨_, rfl⟩, q⟩
theorem call_int1 : CallR X (.type "int") (fun xs H Q => (∃ i, xs = [.int i] ∧ Q (.int i) H) ∨ ∃ k, xs = [.bl k] ∧ Q (.int (if k then 1 else 0)) H) := by
  intro pins s σ H xs us Q I r h
  rcases h with ⟨i, rfl, q⟩ | ⟨k, rfl, q⟩
  · obtain ⟨u, rfl, t, rfl⟩ := vals1 r
    exact call_int_int ⟨.int i, H, I, ⟨_, rfl⟩, q⟩
  · obtain ⟨u, rfl, r1⟩ := vals1 r
    cases r1
    exact call_int_bool ⟨.int (if k then 1 else 0), H, I.tok _, ⟨_, rfl⟩, q⟩
theorem call_str_int : CallR X (.type "str") (fun xs H Q => ∃ i, xs = [.int i] ∧ i.natAbs.log2 < 1920 ∧ Q (.str (toString i)) H) := by
  intro pins s σ H xs us Q I r h
  obtain ⟨i, rfl, hz, q⟩ := h
  obtain ⟨u, rfl, t, rfl⟩ := vals1 r
  exact PySem.P.str_of_int hz ⟨.str _, H, I.tok _, ⟨_, rfl⟩, q⟩
end
end L2

namespace L2
open PySem PySem.Spec PyProof.Rows

structure ObjM (h : Heap) (x dx C : Addr) (mA : Str → Option Value) : Prop where
  obj : h.get? x = some (PySem.W.instObj C dx)
  ns : h.Ns1 dx mA
  ne : dx ≠ x

theorem lookIn_ns {h : Heap} {dx : Addr} {mA : Str → Option Value} (n : h.Ns1 dx mA) : ∃ od, h.get? dx = some od ∧ ∀ name, PySem.W.lookIn name od = some (mA name) := by
  obtain ⟨o, es, ep, ho, hd, hk, _, hm⟩ := n
  refine ⟨o, ho, fun name => ?_⟩
  have e := hm name
  unfold nsFind findBy at e
  rw [← Array.find?_toList] at e
  unfold PySem.W.lookIn
  rw [hd]
  dsimp only
  split
  · rename_i y q
    rw [q] at e
    exact congrArg some e
  · rename_i q
    rw [q] at e
    have a : es.toList.any (·.refKey) = false := by
      rw [List.any_eq_false]
      intro y hy
      obtain ⟨z, t, hkey⟩ := hk y (Array.mem_toList_iff.mp hy)
      simp [DictEntry.refKey, hkey]
    have a' : ¬ es.toList.any (·.refKey) = true := by rw [a]; exact Bool.false_ne_true
    rw [if_neg a']
    exact congrArg some e

theorem ObjM.look {h : Heap} {x dx C : Addr} {mA : Str → Option Value} (I : ObjM h x dx C mA) : ∃ od, PySem.W.InstAt h x (PySem.W.instObj C dx) C (some od) ∧ ∀ name, PySem.W.lookIn name od = some (mA name) :=
  let ⟨od, ho, hl⟩ := lookIn_ns I.ns
  ⟨od, ⟨I.obj, rfl, rfl, ho⟩, hl⟩

section
variable {prog : Program} {w : World} {A : Around} {E : Value → Shared → Prop} {s : Shared} {K : PySem.W.Frag} {x dx C f : Addr} {mA : Str → Option Value} {name : Str} {v : Value}

end

section
variable {P : Program} {w : World} {H H' : Hp} {h h' : Heap} {a C dx : Addr} {fs fs' : List (Str × V)}
theorem ins_get (hok : HOk P w H h) (e : H a = some (.ins C dx fs)) : ∃ mA, ObjM h a dx C mA ∧ (∀ f, RelO (fs.lookup f) (mA f)) ∧ PySem.Within mA (fs.map (·.1)) ∧ fs.length ≤ 1000 ∧ H dx = some (.own a) := by
  obtain ⟨d, z, ne, ob, mA, n, r, q⟩ := (show ObjOk P w H h a (.ins C dx fs) from hok a _ e)
  exact ⟨mA, ⟨ob, n, ne⟩, r, q, z, d⟩
end

structure Cls (K : PySem.W.Frag) (C : Addr) : Prop where
  pg : PySem.W.plainGet K C Str.empty = true
  hd : PySem.W.hasDictIn K C = true
  po : PySem.W.plainOver K C = true
  sa : PySem.W.findIn K (.ref C) "__setattr__" = some (some (.builtin "object.__setattr__"))
theorem Cls.get {K : PySem.W.Frag} {C : Addr} (c : Cls K C) (f : Str) : PySem.W.plainGet K C f = true := c.pg
section
variable {X : Cx} {pins : List (Addr × Obj)} {σ : St} {H : Hp} {s : Shared} {a C dx : Addr} {fs : List (Str × V)} {f : Str} {v : V} {A : Around} {E : Value → Shared → Prop}

end

section
variable {X : Cx} {o e value : Expr} {f : Str} {pos pos' tpos : Pos} {ta tv : TE}
end

section
variable {X : Cx} {pins : List (Addr × Obj)} {σ : St} {H : Hp} {s : Shared} {A : Around} {E : Value → Shared → Prop} {Q : Value → Shared → Prop} {c : Value} {b : Bool}
inductive TyOf (K : PySem.W.Frag) (H : Hp) : V → Value → Prop where
  | non : TyOf K H .non (.type "NoneType")
  | bl (x : Bool) : TyOf K H (.bl x) (.type "bool")
  | int (i : Int) : TyOf K H (.int i) (.type "int")
  | str (x : Str) : TyOf K H (.str x) (.type "str")
  | flt (x : UInt64) : TyOf K H (.flt x) (.type "float")
  | lst {a : Addr} {xs : List V} (e : H a = some (.lst xs)) : TyOf K H (.ref a) (.type "list")
  | frz {a : Addr} {o : Obj} {xs : List V} (e : H a = some (.frz o (.lst xs))) : TyOf K H (.ref a) (.type "list")
  | tup {a : Addr} {xs : List V} (e : H a = some (.tup xs)) : TyOf K H (.ref a) (.type "tuple")
  | dK {a : Addr} {kvs : List (Key × V)} (e : H a = some (.dK kvs)) : TyOf K H (.ref a) (.type "dict")
  | dT {a : Addr} {kvs : List (List Key × V)} (e : H a = some (.dT kvs)) : TyOf K H (.ref a) (.type "dict")
  | ins {a C dx : Addr} {fs : List (Str × V)} (e : H a = some (.ins C dx fs)) (cl : Cls K C) (ha : PySem.W.findIn K (.ref C) "__class__" = some (some (.builtin "object.__class__")))
      (hn : PySem.W.specialIn K (.builtin "object.__class__") "__get__" = some (some (.builtin "getset_descriptor.__get__"))) (htk : PySem.W.takesIn K (.builtin "object.__class__") = some true)
      (hm : PySem.W.mroIn K C (.type "object") = some true) : TyOf K H (.ref a) (.ref C)
theorem isinst_ok {x : V} {u t : Value} (I : Inv X pins σ H s) (rx : RelV x u) (ty : TyOf X.K H x t) (e : PySem.W.kitOne X.K t c = some b) (h : ∀ tk, Q (.bool b) { s with toks := tk }) :
    wpAny (model X.prog X.w) A (call (.builtin "isinstance") [u, c]) Q E s := by
  cases ty with
  | non => cases (show u = Value.none from rx); exact PySem.W.kia_one PySem.W.kitx_none I.kIn True.intro e (fun z => nomatch z) h
  | bl y => cases (show u = Value.bool y from rx); exact PySem.W.kia_one PySem.W.kitx_bool I.kIn True.intro e (fun z => nomatch z) h
  | int i => obtain ⟨t, q⟩ := (show ∃ t, u = Value.int i t from rx); cases q; exact PySem.W.kia_one PySem.W.kitx_int I.kIn True.intro e (fun z => nomatch z) h
  | str y => obtain ⟨t, q⟩ := (show ∃ t, u = Value.str y t from rx); cases q; exact PySem.W.kia_one PySem.W.kitx_str I.kIn True.intro e (fun z => nomatch z) h
  | flt y => obtain ⟨t, q⟩ := (show ∃ t, u = Value.float y t from rx); cases q; exact PySem.W.kia_one PySem.W.kitx_float I.kIn True.intro e (fun z => nomatch z) h
  | @lst a xs ea =>
    cases (show u = Value.ref a from rx)
    obtain ⟨_, _, n, _, h1⟩ := (show ObjOk X.prog X.w H s.heap a (.lst xs) from I.hok a _ ea)
    exact PySem.W.kia_one PySem.W.kitx_list I.kIn ⟨_, h1, rfl⟩ e (fun z => nomatch z) h
  | @frz a ob xs ea =>
    cases (show u = Value.ref a from rx)
    obtain ⟨_, _, _, n, _, h1⟩ := (show ObjOk X.prog X.w H s.heap a (.frz ob (.lst xs)) from I.hok a _ ea)
    exact PySem.W.kia_one PySem.W.kitx_list I.kIn ⟨_, h1, rfl⟩ e (fun z => nomatch z) h
  | @tup a xs ea =>
    cases (show u = Value.ref a from rx)
    obtain ⟨_, _, _, p⟩ := (show ObjOk X.prog X.w H s.heap a (.tup xs) from I.hok a _ ea)
    obtain ⟨o, h1, h2, _⟩ := p
    exact PySem.W.kia_one PySem.W.kitx_tuple I.kIn ⟨o, h1, h2.1⟩ e (fun z => nomatch z) h
  | @dK a kvs ea =>
    cases (show u = Value.ref a from rx)
    obtain ⟨_, _, vs, _, p⟩ := (show ObjOk X.prog X.w H s.heap a (.dK kvs) from I.hok a _ ea)
    obtain ⟨o, es, ep, h1, h2, _⟩ := p
    exact PySem.W.kia_one PySem.W.kitx_dict I.kIn ⟨o, h1, h2.1⟩ e (fun z => nomatch z) h
  | @dT a kvs ea =>
    cases (show u = Value.ref a from rx)
    obtain ⟨_, _, xs, _, o, es, ep, h1, h2, _⟩ := (show ObjOk X.prog X.w H s.heap a (.dT kvs) from I.hok a _ ea)
    exact PySem.W.kia_one PySem.W.kitx_dict I.kIn ⟨o, h1, h2.1⟩ e (fun z => nomatch z) h
  | @ins a C dx fs ea cl ha hn htk hm =>
    cases (show u = Value.ref a from rx)
    obtain ⟨mA, O, _⟩ := ins_get I.hok ea
    obtain ⟨od, J, _⟩ := O.look
    exact PySem.W.kia_one (PySem.W.kitx_own (cl.get _) cl.hd ha hn htk hm) I.kIn J e (fun z => nomatch z) h
end
end L2

namespace L2
open PySem PySem.Spec PyProof.Rows

structure Room (k : Nat) (A : Around) : Prop where
  hd : A.handled = none
  dp : A.depth + 3 * k + 5 < recursionLimit
  un : A.units + 16 * k + 200 < cLine
theorem Room.mono {j k : Nat} {A : Around} (r : Room k A) (h : j ≤ k) : Room j A := ⟨r.hd, by have := r.dp; omega, by have := r.un; omega⟩
theorem Room.deeper {k : Nat} {A : Around} (r : Room (k + 1) A) (env : Env) : Room k (A.deeper env) :=
  ⟨r.hd, by have := r.dp; show A.depth + 1 + 3 * k + 5 < _; omega, by have := r.un; show A.units + 3 + 16 * k + 200 < _; omega⟩
theorem Room.depth {k : Nat} {A : Around} (r : Room k A) : A.depth < recursionLimit := by have := r.dp; omega
theorem Room.units {k : Nat} {A : Around} (r : Room k A) : A.units + 64 < cLine := by have := r.un; omega
def tNil : TA := fun _ H Q => Q [] H
def tCons (ta : TE) (tr : TA) : TA := fun σ H Q => ta σ H fun x H1 => tr σ H1 fun xs H2 => Q (x :: xs) H2
section
variable {X : Cx} {e : Expr} {es : List Expr} {te : TE} {t : TA} {pos : Pos}
theorem pa_nil : PA X [] tNil := fun _ _ _ _ H Q I h => Calls.spliced_nil ⟨[], H, I, .nil, h⟩
theorem pa_cons (ha : PE X e te) (hr : PA X es t) (hs : starEach (e :: es) X.env = (false, eval e X.env) :: starEach es X.env := by rfl) : PA X (e :: es) (tCons te t) := by
  intro pos pins s σ H Q I h
  rw [hs]
  show wpAny _ _ (spliced ((false, eval e X.env) :: backTo pos (starEach es X.env))) _ _ s
  refine Calls.spliced_cons (thn (ha pins s σ H _ I h) fun u s1 ⟨x, H1, I1, r1, q1⟩ => ?_)
  exact thn (hr pos pins s1 σ H1 _ I1 q1) fun us s2 ⟨xs, H2, I2, r2, q2⟩ => ⟨x :: xs, H2, I2, .cons r1 r2, q2⟩

def tTup (t : TA) : TE := fun σ H Q => t σ H fun xs H1 => xs.length ≤ sizeLine ∧ ∀ p, H1 p = none → Q (.ref p) (upd H1 p (.tup xs))
def tLst (t : TA) : TE := fun σ H Q => t σ H fun xs H1 => xs.length ≤ sizeLine ∧ ∀ p, H1 p = none → Q (.ref p) (upd H1 p (.lst xs))
theorem pe_tup {x1} (h : PA X es t) : PE X (.Tuple es x1 pos) (tTup t) := by
  intro pins s σ H Q I hq
  refine wpAny_Tuple_spliced (thn (h pos pins s σ H _ I hq) fun us s1 ⟨xs, H1, I1, r, z, q⟩ => ⟨by rw [← r.length]; exact z, ?_⟩)
  have hf : H1 s1.heap.objs.size = none := I1.hok.fresh (Nat.le_refl _)
  refine ⟨.ref s1.heap.objs.size, upd H1 s1.heap.objs.size (.tup xs), I1.laid (t' := s1.toks) (fun b u e => Heap.get?_push_of_some _ e) (Nat.le_refl _) ?_, rfl, q _ hf⟩
  exact ⟨z, us, r, IsTupN.new _ _⟩
theorem pe_lst (h : PA X es t) : PE X (.List es pos) (tLst t) := by
  intro pins s σ H Q I hq
  refine wpAny_List_spliced (thn (h pos pins s σ H _ I hq) fun us s1 ⟨xs, H1, I1, r, z, q⟩ => ⟨by rw [← r.length]; exact z, ?_⟩)
  have hf : H1 s1.heap.objs.size = none := I1.hok.fresh (Nat.le_refl _)
  refine ⟨.ref s1.heap.objs.size, upd H1 s1.heap.objs.size (.lst xs), I1.laid (t' := s1.toks) (fun b u e => Heap.get?_push_of_some _ e) (Nat.le_refl _) ?_, rfl, q _ hf⟩
  exact ⟨z, us, 0, r, Heap.get?_push_size _ rfl⟩
end

abbrev Sp := List V → Hp → VK → XK → Prop
abbrev CXT := List Env → Hp → Shared → XK → Value → Shared → Prop

structure Env0 (P : Program) (w : World) (K : PySem.W.Frag) (mg : Str → Option Value) (base : Heap) (A : Around) (outer : List Env) (s : Shared) (H : Hp) : Prop where
  frames : A.frames = some outer
  mod : Mod K mg base
  bs : ∀ b o, base.get? b = some o → s.heap.get? b = some o ∧ H b = none
  bsz : base.objs.size ≤ s.heap.objs.size
  funs : s.heap.FunFrames base outer
  frf : ∀ b ∈ frs outer, H b = none
  hok : HOk P w H s.heap
  bare : AllBare s.gens
def CE (outer : List Env) (P : Program) (w : World) (H : Hp) (s : Shared) (Q : VK) (u : Value) (s' : Shared) : Prop :=
  ∃ v H', s'.os = s.os ∧ AllBare s'.gens ∧ Un (frs outer) [] H H' s.heap s'.heap ∧ HOk P w H' s'.heap ∧ RelV v u ∧ Q v H'
def CR (CX : CXT) (outer : List Env) (P : Program) (w : World) (H : Hp) (s : Shared) (Q : VK) (E : XK) (r : Result) (s' : Shared) : Prop :=
  match r with
  | .ok (.ret u) => CE outer P w H s Q u s'
  | .ok _ => False
  | .error e => CX outer H s E e s'
structure FnOk (P : Program) (w : World) (K : PySem.W.Frag) (mg : Str → Option Value) (base : Heap) (CX : CXT) (k : Nat) (f : Addr) (fd : FuncData) (ps : List Str) (sp : Sp) : Prop where
  len : ∀ vs H Q E, sp vs H Q E → vs.length = ps.length
  run : ∀ (A : Around) (outer : List Env) (s : Shared) (H : Hp) (args : Args) (us : List Value) (vs : List V) (Q : VK) (E : XK), Room k A → Env0 P w K mg base A outer s H → BindsTo s fd args (ps.zip us) → Vals vs us → sp vs H Q E →
    codeAny (model P w) A (.call (.ref f) args) (CR CX outer P w H s Q E) s
theorem FnOk.mono {P : Program} {w : World} {K : PySem.W.Frag} {mg : Str → Option Value} {base : Heap} {CX : CXT} {j k : Nat} {f : Addr} {fd : FuncData} {ps : List Str} {sp : Sp} (F : FnOk P w K mg base CX j f fd ps sp) (h : j ≤ k) :
    FnOk P w K mg base CX k f fd ps sp := ⟨F.len, fun A outer s H args us vs Q E hr => F.run A outer s H args us vs Q E (hr.mono h)⟩
section
variable {X : Cx} {pins : List (Addr × Obj)} {σ : St} {H : Hp} {s s' : Shared}
theorem Inv.env0 (I : Inv X pins σ H s) : Env0 X.prog X.w X.K X.mg X.base X.A X.stack s H :=
  ⟨I.ok.frames, I.ok.mod, I.bs, Nat.le_trans I.ok.bsz I.sz, I.stack, I.stkFree, I.hok, I.bare⟩
theorem Inv.after {Q : VK} {u : Value} (I : Inv X pins σ H s) (h : CE X.stack X.prog X.w H s Q u s') : EP X pins σ Q u s' := by
  obtain ⟨v, H', os, bare, un, hok, r, q⟩ := h
  obtain ⟨hh, g, d, t, os'⟩ := s'
  obtain rfl : os' = s.os := os
  exact ⟨v, H', I.call (h' := hh) (g' := g) (d' := d) (t' := t) (ch := []) un hok bare (fun b z => absurd z (by simp)), r, q⟩
end

def tCall (sp : Sp) (dvs : List V) (E : XK) (t : TA) : TE := fun σ H Q => t σ H fun vs H1 => sp (vs ++ dvs) H1 Q E
def Binds (K : PySem.W.Frag) (fd : FuncData) (ps : List Str) (ds : List Value) : Prop :=
  ∀ (s : Shared) (us : List Value), K.In s.heap → (us ++ ds).length = ps.length → BindsTo s fd ⟨us, []⟩ (ps.zip (us ++ ds))
theorem Binds.all {K : PySem.W.Frag} {fd : FuncData} {ps : List Str} (h : ∀ us : List Value, us.length = ps.length → bindArgs fd ⟨us, []⟩ = pure (ps.zip us)) : Binds K fd ps [] := fun s us _ hl => by
  rw [List.append_nil] at hl ⊢
  exact .of_eq (h us hl)

def Passes (CX : CXT) (X : Cx) (E : XK) : Prop := ∀ (pins : List (Addr × Obj)) (σ : St) (H : Hp) (s : Shared) (e : Value) (s' : Shared), Inv X pins σ H s → CX X.stack H s E e s' → X.xe e s'

section
variable {X : Cx} {CX : CXT} {k : Nat} {f C : Addr} {fd : FuncData} {ps : List Str} {sp : Sp} {dvs : List V} {ds : List Value} {E : XK} {x m : Str} {p pos apos : Pos} {e o : Expr} {es : List Expr} {ta : TE} {t : TA}

theorem run_fn {pins : List (Addr × Obj)} {σ : St} {H : Hp} {s : Shared} {Q : VK} {us : List Value} {vs : List V} (F : FnOk X.prog X.w X.K X.mg X.base CX k f fd ps sp) (hr : Room k X.A) (hb : Binds X.K fd ps ds) (hd : Vals dvs ds) (hx : Passes CX X E)
    (I : Inv X pins σ H s) (r : Vals vs us) (h : sp (vs ++ dvs) H Q E) : wpAny (model X.prog X.w) X.A (call (.ref f) us) (EP X pins σ Q) X.xe s := by
  have r2 : Vals (vs ++ dvs) (us ++ ds) := r.append hd
  have hl : (us ++ ds).length = ps.length := by rw [← r2.length]; exact F.len _ _ _ _ h
  refine wpAny_call (codeAny_mono (F.run X.A X.stack s H ⟨us, []⟩ (us ++ ds) (vs ++ dvs) Q E hr I.env0 (hb s us I.kIn hl) r2 h) fun r s' hq => ?_)
  cases r with
  | error e => exact hx pins σ H s e s' I hq
  | ok fl =>
    cases fl with
    | ret u => exact I.after hq
    | next => exact False.elim hq
    | brk => exact False.elim hq
    | cont => exact False.elim hq

theorem pe_call (F : FnOk X.prog X.w X.K X.mg X.base CX k f fd ps sp) (hr : Room k X.A) (hg : Gl X x) (hm : X.mg x = some (.ref f)) (hk : PySem.W.keepIn X.K (.ref f) = true) (hb : Binds X.K fd ps ds) (hd : Vals dvs ds) (hx : Passes CX X E)
    (ha : PA X (e :: es) t) (hdb : (x == ("__debug__" : Str)) = false := by decide) (he : starEach (e :: es) X.env = (false, eval e X.env) :: starEach es X.env := by rfl) (hpl : (backTo pos (starEach es X.env)).any (·.1) = false := by rfl) :
    PE X (.Call (.Name x p) (e :: es) [] pos) (tCall sp dvs E t) := by
  intro pins s σ H Q I h
  refine wpAny_Call_Name_kw (ld_glob I hg hm ?_ hdb)
  refine PySem.W.callWith_K (h₀ := X.base) I.ok.mod.kin hk (thn (ha pos pins s σ H _ I h) fun us s1 ⟨vs, H1, I1, r, q⟩ => ⟨I1.kIn, ?_⟩) he hpl
  exact run_fn F hr hb hd hx I1 r q
end

section
variable {X : Cx} {CX : CXT} {k : Nat} {f C : Addr} {fd : FuncData} {ps ks : List Str} {sp : Sp} {E : XK} {x m : Str} {p pos apos kpos : Pos} {e o : Expr} {es : List Expr} {kws : List Keyword} {te ta : TE} {t tk : TA} {nm : Option Str}
variable {g : List Value → List Value → List Value} {gV : List V → List V → List V}
end

structure FnScope (N P : List Str) (sc : Scope) : Prop where
  kind : sc.kind = .function
  co : sc.isCoroutine = false
  gen : sc.isGenerator = false
  nd : N.Nodup
  pre : N.take P.length = P
  par : ∀ x ∈ P, sc.names.lookup x = some .local ∨ sc.names.lookup x = some .cell
  nofree : ∀ y ∈ sc.names, y.2 ≠ .free

theorem bindL_out {kindOf : Str → Option NameKind} {x : Str} : ∀ {binds : List (Str × Value)} {m : Str → Option Value}, (∀ v, (x, v) ∉ binds) → bindL kindOf binds m x = m x
  | [], _, _ => rfl
  | (n, v) :: r, m, h => by
    unfold bindL
    rw [bindL_out fun w hw => h w (List.mem_cons_of_mem _ hw)]
    split
    · have : x ≠ n := by rintro rfl; exact h v List.mem_cons_self
      simp [this]
    · rfl
theorem bindC_out {kindOf : Str → Option NameKind} {x : Str} : ∀ {binds : List (Str × Value)} {m : Str → Option Value}, (∀ v, (x, v) ∉ binds) → bindC kindOf binds m x = m x
  | [], _, _ => rfl
  | (n, v) :: r, m, h => by
    unfold bindC
    rw [bindC_out fun w hw => h w (List.mem_cons_of_mem _ hw)]
    split
    · rfl
    · have : x ≠ n := by rintro rfl; exact h v List.mem_cons_self
      simp [this]
theorem bindL_get {kindOf : Str → Option NameKind} {x : Str} {v : Value} : ∀ {P : List Str} {vs : List Value} {i : Nat} {m : Str → Option Value}, P.Nodup → P[i]? = some x → vs[i]? = some v → kindOf x = some .local →
    bindL kindOf (P.zip vs) m x = some v
  | [], _, _, _, _, h, _, _ => by simp at h
  | _ :: _, [], _, _, _, _, h, _ => by simp at h
  | p :: P, w :: vs, 0, m, nd, h1, h2, hk => by
    simp at h1 h2; subst h1; subst h2
    show bindL kindOf ((p, w) :: P.zip vs) m p = _
    unfold bindL
    rw [bindL_out fun v hv => (List.nodup_cons.mp nd).1 (List.of_mem_zip hv).1, if_pos hk]
    simp
  | p :: P, w :: vs, i + 1, m, nd, h1, h2, hk => by
    show bindL kindOf ((p, w) :: P.zip vs) m x = _
    unfold bindL
    exact bindL_get (i := i) (List.nodup_cons.mp nd).2 (by simpa using h1) (by simpa using h2) hk
theorem bindC_get {kindOf : Str → Option NameKind} {x : Str} {v : Value} : ∀ {P : List Str} {vs : List Value} {i : Nat} {m : Str → Option Value}, P.Nodup → P[i]? = some x → vs[i]? = some v → kindOf x ≠ some .local →
    bindC kindOf (P.zip vs) m x = some v
  | [], _, _, _, _, h, _, _ => by simp at h
  | _ :: _, [], _, _, _, _, h, _ => by simp at h
  | p :: P, w :: vs, 0, m, nd, h1, h2, hk => by
    simp at h1 h2; subst h1; subst h2
    show bindC kindOf ((p, w) :: P.zip vs) m p = _
    unfold bindC
    rw [bindC_out fun v hv => (List.nodup_cons.mp nd).1 (List.of_mem_zip hv).1, if_neg hk]
    simp
  | p :: P, w :: vs, i + 1, m, nd, h1, h2, hk => by
    show bindC kindOf ((p, w) :: P.zip vs) m x = _
    unfold bindC
    exact bindC_get (i := i) (List.nodup_cons.mp nd).2 (by simpa using h1) (by simpa using h2) hk

def start (N : List Str) (vs : List V) : St := vs.map some ++ List.replicate (N.length - vs.length) none

def cxOf (CX : CXT) (P : Program) (w : World) (K : PySem.W.Frag) (mg : Str → Option Value) (base : Heap) (N : List Str) (qual : Str) (scope : Scope) (f : Addr) (cd : Value) (A : Around) (outer : List Env) (s : Shared) (H : Hp) (E : XK) : Cx where
  prog := P
  w := w
  K := K
  mg := mg
  base := base
  A := A.deeper (envOfC qual scope s.heap.objs.size f cd)
  N := N
  s₀ := s
  H₀ := H
  env := envOfC qual scope s.heap.objs.size f cd
  outer := outer
  stack := envOfC qual scope s.heap.objs.size f cd :: outer
  ex := []
  calm := true
  fn := fun _ => true
  pn := []
  xe := fun e s' => wpAny (model P w) (A.deeper (envOfC qual scope s.heap.objs.size f cd)) (leaving (envOfC qual scope s.heap.objs.size f cd) e) (fun _ s'' => CX outer H s E e s'') (fun e' s'' => CX outer H s E e' s'') s'

theorem cell_has {sc : Scope} {n : Nat} {x : Str} (h : sc.names.lookup x = some .cell) : ∃ c, (cellsFrom n sc.names []).lookup x = some c := by
  have q := PySem.W.cellsFrom_some sc.names n [] (.inl h)
  exact Option.isSome_iff_exists.mp q

theorem inv_start {CX : CXT} {P : Program} {w : World} {K : PySem.W.Frag} {mg : Str → Option Value} {base : Heap} {N ps : List Str} {qual : Str} {scope : Scope} {f : Addr} {cd : Value} {A : Around} {outer : List Env} {s s1 : Shared} {H : Hp} {E : XK} {us : List Value} {vs : List V}
    (S : FnScope N ps scope) (hd : A.handled = none) (e0 : Env0 P w K mg base A outer s H) (hl : vs.length = ps.length) (r : Vals vs us)
    (x : InCallC s s.heap.objs.size (bindL (envOfC qual scope s.heap.objs.size f cd).kindOf (ps.zip us) fun _ => none) (cellsFrom (s.heap.objs.size + 1) scope.names []) (bindC (envOfC qual scope s.heap.objs.size f cd).kindOf (ps.zip us) fun _ => none) s1) :
    Inv (cxOf CX P w K mg base N qual scope f cd A outer s H E) [] (start N vs) H s1 := by
  have hpl : ps.length ≤ N.length := by have := congrArg List.length S.pre; rw [List.length_take] at this; omega
  obtain ⟨h1, tk, rfl, hk⟩ := x.done
  have noA : ∀ b : Addr, b ∉ (cxOf CX P w K mg base N qual scope f cd A outer s H E).ex := fun b z => absurd (show b ∈ ([] : List Addr) from z) (by simp)
  refine ⟨⟨e0.mod, S.kind, rfl, rfl, Nat.le_refl _, fun y z c h1 h2 => ?_, fun y hy => ?_, fun y c _ h => ?_, fun _ => hd, Around.frames_deeper e0.frames, .inr ⟨rfl, rfl⟩, fun b z => absurd z (noA b), e0.bs, e0.bsz, fun b _ _ => noA b, fun b z => absurd z (noA b), e0.funs, e0.frf⟩,
    rfl, e0.bare, Un.kept hk, ⟨_, x.toInCall.ns, fun i y v h1 h2 h3 => ?_⟩, fun y c h => ⟨_, x.cell y c h⟩, e0.hok.fresh (Nat.le_refl _), fun y c h => ?_, fun p hp => absurd (show p ∈ ([] : List (Addr × Obj)) from hp) (by simp), e0.hok.kept hk, ?_⟩
  · exact name_of_addr x.apart (PySem.mem_of_lookup h1) (PySem.mem_of_lookup h2)
  · have hy : scope.names.lookup y = some .cell ∨ scope.names.lookup y = some .free := hy
    rcases hy with hy | hy
    · exact cell_has hy
    · exact absurd rfl (S.nofree _ (PySem.mem_of_lookup hy))
  · exact Nat.le_of_lt (x.above y c (PySem.mem_of_lookup h))
  · have hi : i < vs.length := by
      unfold start at h2
      by_cases hi : i < vs.length
      · exact hi
      · rw [List.getElem?_append_right (by simpa using hi)] at h2
        rw [List.getElem?_replicate] at h2
        split at h2 <;> cases h2
    have ha : vs[i]? = some v := by
      unfold start at h2
      rw [List.getElem?_append_left (by simpa using hi), List.getElem?_map] at h2
      cases e : vs[i]? with
      | none => rw [e] at h2; cases h2
      | some a => rw [e] at h2; cases h2; rfl
    obtain ⟨u, hu, rv⟩ := r.get ha
    have hp : ps[i]? = some y := by
      rw [← S.pre, List.getElem?_take_of_lt (by omega)]; exact h1
    have ndP : ps.Nodup := by rw [← S.pre]; exact S.nd.sublist (List.take_sublist _ _)
    refine ⟨u, rv, ?_⟩
    rcases S.par y (List.mem_of_getElem? hp) with k | k
    · exact .inl ⟨k, bindL_get ndP hp hu k⟩
    · obtain ⟨c, e⟩ := cell_has (n := s.heap.objs.size + 1) k
      refine .inr ⟨.inl k, c, e, ?_⟩
      have q := x.cell y c e
      rw [bindC_get ndP hp hu (by show scope.names.lookup y ≠ _; rw [k]; decide)] at q
      exact q
  · exact e0.hok.fresh (Nat.le_of_lt (x.above y c (PySem.mem_of_lookup h)))
  · unfold start
    show _ = N.length
    rw [List.length_append, List.length_map, List.length_replicate]
    omega

theorem fn_of {CX : CXT} {P : Program} {w : World} {K : PySem.W.Frag} {mg : Str → Option Value} {base : Heap} {k : Nat} {f : Addr} {name qual : Str} {params : Arguments} {body : List Stmt} {scope : Scope} {dV kV doc pm cdv ct oc : Value} {an od : Option Addr}
    {osl : Array (Option Value)} {N ps : List Str} {sp : Sp} (lk : K.lookup f = some ⟨oc, od, .func (PySem.W.fnOf name qual params body scope dV kV doc pm an cdv ct), osl⟩) (hcd : PySem.W.codeIn K cdv qual = true) (S : FnScope N ps scope)
    (len : ∀ vs H Q E, sp vs H Q E → vs.length = ps.length)
    (hbody : ∀ (A : Around) (outer : List Env) (s : Shared) (H : Hp) (vs : List V) (Q : VK) (E : XK), Room k (A.deeper (envOfC qual scope s.heap.objs.size f cdv)) → sp vs H Q E →
      ∃ t, PSs (cxOf CX P w K mg base N qual scope f cdv A outer s H E) body t ∧ t { nx := fun _ H' => Q .non H', rt := Q } (start N vs) H) :
    FnOk P w K mg base CX (k + 1) f (PySem.W.fnOf name qual params body scope dV kV doc pm an cdv ct) ps sp := by
  refine ⟨len, fun A outer s H args us vs Q E hr e0 hb r hsp => ?_⟩
  have hl := len _ _ _ _ hsp
  have KX : K.In s.heap := e0.mod.kin.keeps fun b o e => (e0.bs b o e).1
  have lim : s.heap.NoLimit := e0.mod.nolimit.keeps fun b o e => (e0.bs b o e).1
  have hkind : ∀ y ∈ ps.zip us, scope.names.lookup y.1 = some .local ∨ (scope.names.lookup y.1 = some .cell ∧ ((cellsFrom (s.heap.objs.size + 1) scope.names []).lookup y.1).isSome = true) := fun ⟨n, v⟩ hy => by
    rcases S.par n (List.of_mem_zip hy).1 with q | q
    · exact .inl q
    · exact .inr ⟨q, PySem.W.cellsFrom_some _ _ _ (.inl q)⟩
  refine codeAny_call_function hr.depth (KX _ _ lk) rfl S.co S.gen rfl (PySem.W.codeRec_of KX hcd) (hb _ _ _ _ ?_)
  refine wpAny_newFunctionEnv_cells S.kind hkind fun env he s1 x => ?_
  subst he
  refine ⟨lim.keeps x.toInCall.keep, codeAny_func ?_⟩
  obtain ⟨t, ht, hq⟩ := hbody A outer s H vs Q E (hr.deeper _) hsp
  have I : Inv (cxOf CX P w K mg base N qual scope f cdv A outer s H E) [] (start N vs) H s1 := inv_start S hr.hd e0 hl r x
  refine wpAny_mono (ht [] s1 (start N vs) H _ I hq) (fun fl s' hs => ?_) fun e s' hs => hs
  have fin : ∀ {σ' : St} {H' : Hp} {v : V} {u : Value}, Inv (cxOf CX P w K mg base N qual scope f cdv A outer s H E) [] σ' H' s' → RelV v u → Q v H' → CE outer P w H s Q u s' :=
    fun {σ' H' v u} J rv q => ⟨v, H', J.os, J.bare, J.base, J.hok, rv, q⟩
  cases fl with
  | ret u =>
    obtain ⟨v, σ', H', J, rv, q⟩ := hs
    exact fin J rv q
  | next =>
    obtain ⟨σ', H', J, q⟩ := hs
    exact fin (v := V.non) (u := Value.none) J rfl q
  | brk =>
    obtain ⟨_, _, _, q⟩ := hs
    exact False.elim q
  | cont =>
    obtain ⟨_, _, _, q⟩ := hs
    exact False.elim q
end L2

namespace L2
open PySem PySem.Spec PyProof.Rows
section
variable {X : Cx} {x : Str} {p pos : Pos} {e : Expr} {es : List Expr} {t : TA} {id T : String} {r : List V → Hp → VK → Prop}

def tCB (r : List V → Hp → VK → Prop) (t : TA) : TE := fun σ H Q => t σ H fun vs H1 => r vs H1 Q
theorem pe_callB (hc : CallR X (.builtin id) r) (hg : Gl X x) (hm : X.mg x = none) (hv : bootBuiltins x = some (.builtin id)) (ha : PA X (e :: es) t) (hn : x ≠ "__name__" := by decide) (hdb : (x == ("__debug__" : Str)) = false := by decide)
    (he : starEach (e :: es) X.env = (false, eval e X.env) :: starEach es X.env := by rfl) (hpl : (backTo pos (starEach es X.env)).any (·.1) = false := by rfl) : PE X (.Call (.Name x p) (e :: es) [] pos) (tCB r t) := by
  intro pins s σ H Q I h
  refine wpAny_Call_Name_kw (ld_blt I hg hm hv ?_ hn hdb)
  exact PyProof.Rows.callWith_builtin1 (thn (ha pos pins s σ H _ I h) fun us s1 ⟨vs, H1, I1, r1, q1⟩ => hc pins s1 σ H1 vs us Q I1 r1 q1) he hpl
theorem pe_callTy (hc : CallR X (.type T) r) (hg : Gl X x) (hm : X.mg x = none) (hv : bootBuiltins x = some (.type T)) (ha : PA X (e :: es) t) (hn : x ≠ "__name__" := by decide) (hdb : (x == ("__debug__" : Str)) = false := by decide)
    (he : starEach (e :: es) X.env = (false, eval e X.env) :: starEach es X.env := by rfl) (hpl : (backTo pos (starEach es X.env)).any (·.1) = false := by rfl) : PE X (.Call (.Name x p) (e :: es) [] pos) (tCB r t) := by
  intro pins s σ H Q I h
  refine wpAny_Call_Name_kw (ld_blt I hg hm hv ?_ hn hdb)
  exact PyProof.Rows.callWith_type1 (thn (ha pos pins s σ H _ I h) fun us s1 ⟨vs, H1, I1, r1, q1⟩ => hc pins s1 σ H1 vs us Q I1 r1 q1) he hpl
end
end L2



set_option Elab.async false
set_option linter.all false
set_option maxRecDepth 100000
namespace HT
open PySem PyProof.Rows

section
open PySem.SeqAt
open PySem.AutoSeq1 (wpAny_loadPart')
open PySem.MeetsSeq PySem.MeetsSeq2 PySem.MeetsSeq3

end

section
variable {prog : Program} {w : World} {A : Around} {E : Value → Shared → Prop} {s : Shared}

end
end HT

namespace L2
open PySem PySem.Spec PyProof.Rows

abbrev TO := St → Hp → (Option Int → Hp → Prop) → Prop
def PO (X : Cx) (e : Option Expr) (t : TO) : Prop :=
  ∀ (pins : List (Addr × Obj)) (s : Shared) (σ : St) (H : Hp) (Q : Option Int → Hp → Prop), Inv X pins σ H s → t σ H Q →
    wpAny (model X.prog X.w) X.A (evalPart e X.env) (fun u s' => ∃ o H', Inv X pins σ H' s' ∧ IsPart u o ∧ Q o H') X.xe s
def tNoPart : TO := fun _ H Q => Q none H
def tPart (t : TE) : TO := fun σ H Q => t σ H fun x H1 => ∃ i, x = .int i ∧ Q (some i) H1

section
variable {X : Cx} {e : Expr} {te : TE} {lo hi : Option Expr} {tl th : TO} {pos p2 : Pos}

theorem po_none : PO X none tNoPart := by
  intro pins s σ H Q I h
  rw [evalPart_none]
  exact wpAny_pure ⟨none, H, I, .none, h⟩
theorem po_some (h : PE X e te) : PO X (some e) (tPart te) := by
  intro pins s σ H Q I hw
  rw [evalPart_some]
  refine thn (h pins s σ H _ I hw) fun u s1 ⟨x, H1, I1, r1, q1⟩ => ?_
  obtain ⟨i, rfl, q⟩ := q1
  obtain ⟨t, rfl⟩ := r1
  exact ⟨some i, H1, I1, .int i t, q⟩

def SlR (X : Cx) (r : V → Option Int → Option Int → Hp → VK → Prop) : Prop :=
  ∀ (pins : List (Addr × Obj)) (s : Shared) (σ : St) (H : Hp) (x : V) (v vl vu : Value) (lo hi : Option Int) (sl : Addr) (Q : VK), Inv X pins σ H s → RelV x v → s.heap.IsSliceOf sl vl vu .none → IsPart vl lo → IsPart vu hi → r x lo hi H Q →
    ∃ T id, typeLookup (.type T) "__getitem__" = pure (some (.builtin id)) ∧ s.TypeIs v T ∧ wpAny (model X.prog X.w) X.A (getItem v (.ref sl)) (EP X pins σ Q) X.xe s
def tSl (r : V → Option Int → Option Int → Hp → VK → Prop) (te : TE) (tl th : TO) : TE := fun σ H Q => te σ H fun x H1 => tl σ H1 fun l H2 => th σ H2 fun u H3 => r x l u H3 Q
theorem pe_slice {r : V → Option Int → Option Int → Hp → VK → Prop} (hr : SlR X r) (he : PE X e te) (hl : PO X lo tl) (hu : PO X hi th) : PE X (.Subscript e (.Slice lo hi none p2) pos) (tSl r te tl th) := by
  intro pins s σ H Q I h
  refine Subscript_ (thn (he pins s σ H _ I h) fun v s1 ⟨x, H1, I1, r1, q1⟩ => ?_)
  refine wpAny_Slice (thn (hl pins s1 σ H1 _ I1 q1) fun vl s2 ⟨l, H2, I2, pl, q2⟩ => thn (hu pins s2 σ H2 _ I2 q2) fun vu s3 ⟨u, H3, I3, pu, q3⟩ => ?_)
  rw [evalPart_none]
  refine wpAny_pure ?_
  have I4 : Inv X pins σ H3 { s3 with heap := s3.heap.push { cls := .type "slice", data := .fields #[vl, vu, .none] } } := I3.kept (t' := s3.toks) fun b ob q => Heap.get?_push_of_some _ q
  obtain ⟨T, id, hT, ht, hg⟩ := hr pins { s3 with heap := s3.heap.push { cls := .type "slice", data := .fields #[vl, vu, .none] } } σ H3 x v vl vu l u s3.heap.objs.size Q I4 r1 (Heap.IsSliceOf.new ..) pl pu q3
  show wpAny (model X.prog X.w) X.A (subscriptTail e (.Slice lo hi none p2) v (.ref s3.heap.objs.size)) (EP X pins σ Q) X.xe { s3 with heap := s3.heap.push { cls := .type "slice", data := .fields #[vl, vu, .none] } }
  exact tail_any (ops := [.ref s3.heap.objs.size, v]) ht hT hg (by with_unfolding_all rfl)

end
end L2

namespace L2
open PySem PySem.Spec PyProof.Rows

def ixN (n : Nat) (i : Int) : Option Nat := if 0 ≤ i then (if i < n then some i.toNat else none) else if -(n : Int) ≤ i then some (i + n).toNat else none
def atI {α : Type} (xs : List α) (i : Int) : Option α := (ixN xs.length i).bind fun j => xs[j]?
theorem ixN_seq {n : Nat} {i : Int} {j : Nat} (h : ixN n i = some j) : seqIndex? i n = some j ∧ j < n ∧ -(n : Int) ≤ i ∧ i < n := by
  unfold ixN at h
  by_cases h0 : 0 ≤ i
  · rw [if_pos h0] at h
    by_cases h1 : i < n
    · rw [if_pos h1] at h
      have e : i.toNat = j := Option.some.inj h
      exact ⟨by rw [seqIndex_of h0 h1, e], by omega, by omega, h1⟩
    · rw [if_neg h1] at h; cases h
  · rw [if_neg h0] at h
    by_cases h1 : -(n : Int) ≤ i
    · rw [if_pos h1] at h
      have e : (i + n).toNat = j := Option.some.inj h
      exact ⟨by rw [seqIndex_neg (by omega) h1, e], by omega, h1, by omega⟩
    · rw [if_neg h1] at h; cases h
theorem atI_get {α : Type} {xs : List α} {i : Int} {v : α} (h : atI xs i = some v) : ∃ j, seqIndex? i xs.length = some j ∧ xs[j]? = some v ∧ j < xs.length ∧ -(xs.length : Int) ≤ i ∧ i < xs.length := by
  unfold atI at h
  cases e : ixN xs.length i with
  | none => rw [e] at h; cases h
  | some j =>
    rw [e] at h
    obtain ⟨h1, h2, h3, h4⟩ := ixN_seq e
    exact ⟨j, h1, h, h2, h3, h4⟩
theorem atI_nat {α : Type} {xs : List α} {j : Nat} {v : α} (h : xs[j]? = some v) : atI xs (j : Int) = some v := by
  have hj : j < xs.length := (List.getElem?_eq_some_iff.mp h).1
  have e : ixN xs.length (j : Int) = some j := by
    unfold ixN
    rw [if_pos (by omega), if_pos (by omega)]; simp
  unfold atI; rw [e]; exact h
theorem atI_last {α : Type} (xs : List α) (v : α) : atI (xs ++ [v]) (-1) = some v := by
  have hl : (xs ++ [v]).length = xs.length + 1 := by simp
  have e : ixN (xs ++ [v]).length (-1) = some xs.length := by
    unfold ixN
    rw [hl, if_neg (by decide), if_pos (by omega)]
    congr 1
    omega
  unfold atI
  rw [e]
  show (xs ++ [v])[xs.length]? = some v
  simp

def PlainIx (b : Expr) : Prop := ∀ o i, subscripted b false o i = operate [o, i] (getItem o i)
def IxR (X : Cx) (r : R2) : Prop :=
  ∀ (value slice : Expr) (pins : List (Addr × Obj)) (s : Shared) (σ : St) (H : Hp) (x y : V) (v u : Value) (Q : VK), Inv X pins σ H s → RelV x v → RelV y u → r x y H Q →
    subscripted slice false v u = operate [v, u] (getItem v u) → wpAny (model X.prog X.w) X.A (subscriptTail value slice v u) (EP X pins σ Q) X.xe s
def MtR (X : Cx) (id : String) (r : V → List V → Hp → VK → Prop) : Prop :=
  ∀ (pins : List (Addr × Obj)) (s : Shared) (σ : St) (H : Hp) (x : V) (xs : List V) (v : Value) (us : List Value) (Q : VK), Inv X pins σ H s → RelV x v → Vals xs us → r x xs H Q →
    wpAny (model X.prog X.w) X.A (call (.builtin id) (v :: us)) (EP X pins σ Q) X.xe s
section
variable {X : Cx} {a b : Expr} {ta tb : TE} {pos : Pos}
theorem IxR.or {r r' : R2} (h : IxR X r) (h' : IxR X r') : IxR X (fun x y H Q => r x y H Q ∨ r' x y H Q) := by
  intro value slice pins s σ H x y v u Q I rx ry q hs
  rcases q with q | q
  · exact h value slice pins s σ H x y v u Q I rx ry q hs
  · exact h' value slice pins s σ H x y v u Q I rx ry q hs
theorem pe_ix {r : R2} (hr : IxR X r) (ha : PE X a ta) (hb : PE X b tb) (hs : PlainIx b) : PE X (.Subscript a b pos) (tOp r ta tb) := by
  intro pins s σ H Q I h
  exact Subscript_ (binT ha hb I h fun v u s2 x y H2 I2 rx ry q => hr a b pins s2 σ H2 x y v u Q I2 rx ry q (hs _ _))

def rIxL (K : PySem.W.Frag) : R2 := fun x y H Q => ∃ p xs i v, x = .ref p ∧ y = .int i ∧ SqL K H p xs ∧ atI xs i = some v ∧ Q v H
def rIxT (K : PySem.W.Frag) : R2 := fun x y H Q => ∃ p xs i v, x = .ref p ∧ y = .int i ∧ SqT K H p xs ∧ atI xs i = some v ∧ Q v H
def rIxS : R2 := fun x y H Q => ∃ z i c, x = .str z ∧ y = .int i ∧ z.length ≤ sizeLine ∧ atI z.cps.toList i = some c ∧ Q (.str ⟨#[c]⟩) H
theorem ix_list : IxR X (rIxL X.K) := by
  intro value slice pins s σ H x y v u Q I rx ry h hs
  obtain ⟨p, xs, i, z, rfl, rfl, hq, he, q⟩ := h
  cases rx
  obtain ⟨t, rfl⟩ := ry
  obtain ⟨its, r, pl, hz⟩ := I.list hq
  obtain ⟨j, h1, h2, h3, h4, h5⟩ := atI_get he
  obtain ⟨w, ew, rw'⟩ := r.get h2
  have hl := r.length
  have hn := line63
  have fin : EP X pins σ Q w s := ⟨z, H, I, rw', q⟩
  by_cases h0 : 0 ≤ i
  · have hj : i.toNat = j := by
      rw [seqIndex_of h0 h5] at h1
      exact Option.some.inj h1
    exact item_listR pl.isList h0 (by omega) (by rw [hj]; simpa using ew) fin hs
  · have hj : (i + (its.toArray.size : Int)).toNat = j := by
      rw [seqIndex_neg (by omega) h4] at h1
      rw [List.size_toArray, ← hl]
      exact Option.some.inj h1
    exact subscriptTail_builtinR (x := w) pl.isList.typeIs slot_list_getitem.lookup
      (wpAny_getItem_list_neg (Q := fun r s' => r = w ∧ EP X pins σ Q r s') pl.isList (by omega) (by rw [List.size_toArray] <;> omega) (by omega) (by rw [hj]; simpa using ew) ⟨rfl, fin⟩) hs
theorem ix_tup : IxR X (rIxT X.K) := by
  intro value slice pins s σ H x y v u Q I rx ry h hs
  obtain ⟨p, xs, i, z, rfl, rfl, hq, he, q⟩ := h
  cases rx
  obtain ⟨t, rfl⟩ := ry
  obtain ⟨its, r, pl, hz⟩ := I.tuple hq
  obtain ⟨j, h1, h2, h3, h4, h5⟩ := atI_get he
  obtain ⟨w, ew, rw'⟩ := r.get h2
  have hl := r.length
  have hn := line63
  have fin : EP X pins σ Q w s := ⟨z, H, I, rw', q⟩
  exact subscriptTail_builtinR (x := w) pl.typeIs slot_tuple_getitem.lookup
    (getItem_tuple (j := j) (Q := fun r s' => r = w ∧ EP X pins σ Q r s') pl (by omega) (by omega) (by rw [List.size_toArray, ← hl]; exact h1) (by simpa using ew) ⟨rfl, fin⟩) hs
theorem ix_str : IxR X rIxS := by
  intro value slice pins s σ H x y v u Q I rx ry h hs
  obtain ⟨z, i, c, rfl, rfl, hz, he, q⟩ := h
  obtain ⟨t, rfl⟩ := rx
  obtain ⟨t', rfl⟩ := ry
  obtain ⟨j, h1, h2, h3, h4, h5⟩ := atI_get he
  have hl : z.cps.toList.length = z.length := by simp [Str.length]
  rw [hl] at h1 h4 h5
  have hn := line63
  exact tail_any (typeIs_str s z t) slot_str_getitem.lookup (getItem_str (c := c) (by
    have e1 : decide (i < -(2 ^ 63 : Int)) = false := decide_eq_false (by omega)
    have e2 : decide (i ≥ 2 ^ 63) = false := decide_eq_false (by omega)
    rw [e1, e2, Bool.or_false]) (by rw [h1]; simpa using h2) ⟨.str ⟨#[c]⟩, H, I.tok _, ⟨_, rfl⟩, q⟩) hs
def rIx (K : PySem.W.Frag) : R2 := fun x y H Q => rIxL K x y H Q ∨ rIxT K x y H Q ∨ rIxS x y H Q
theorem ix_seq : IxR X (rIx X.K) := ix_list.or (ix_tup.or ix_str)

theorem mapSeq_set (its : List Value) (n j : Nat) (u : Value) : Obj.mapSeq (·.setIfInBounds j u) { cls := .type "list", data := .seq its.toArray n } = { cls := .type "list", data := .seq (its.set j u).toArray n } := by
  simp [Obj.mapSeq]
theorem Inv.lst {pins : List (Addr × Obj)} {σ : St} {H : Hp} {s : Shared} {p : Addr} {xs : List V} (I : Inv X pins σ H s) (h : H p = some (.lst xs)) :
    ∃ (its : List Value) (n : Nat), Vals xs its ∧ s.heap.get? p = some { cls := .type "list", data := .seq its.toArray n } ∧ xs.length ≤ sizeLine := by
  obtain ⟨z, its, n, r, e⟩ := I.hok p _ h
  exact ⟨its, n, r, e, z⟩
theorem Inv.lstUpd {pins : List (Addr × Obj)} {σ : St} {H : Hp} {s : Shared} {p : Addr} {xs ys : List V} {its its' : List Value} {n n' : Nat} {f : Obj → Obj} (I : Inv X pins σ H s) (h : H p = some (.lst xs))
    (ho : s.heap.get? p = some { cls := .type "list", data := .seq its.toArray n }) (hf : f { cls := .type "list", data := .seq its.toArray n } = { cls := .type "list", data := .seq its'.toArray n' }) (r : Vals ys its') (hz : ys.length ≤ sizeLine) (t : Nat) :
    Inv X pins σ (upd H p (.lst ys)) { s with heap := s.heap.update p f, toks := t } := by
  have e : (s.heap.update p f).get? p = some { cls := .type "list", data := .seq its'.toArray n' } := by
    rw [Heap.get?_update_self f ho (by rw [hf] <;> rfl), hf]
  refine I.write (x := p) (e := p) (by rw [h]; trivial) (.inl rfl) (fun b u hb q => (Heap.get?_update_other _ _ (Ne.symm hb)).trans q) ⟨_, e⟩ ?_
  exact ⟨hz, its', n', r, e⟩
def rSetL : V → V → V → Hp → (Hp → Prop) → Prop := fun o i v H Q => ∃ p xs k j, o = .ref p ∧ i = .int k ∧ H p = some (.lst xs) ∧ ixN xs.length k = some j ∧ Q (upd H p (.lst (xs.set j v)))
theorem set_list : PSet X rSetL := by
  intro pins s σ H o i v ov iv u Q I ro ri rv h
  obtain ⟨p, xs, k, j, rfl, rfl, hp, hj, q⟩ := h
  cases ro
  obtain ⟨t, rfl⟩ := ri
  obtain ⟨its, n, r, ho, hz⟩ := I.lst hp
  obtain ⟨h1, h2, h3, h4⟩ := ixN_seq hj
  have hl := r.length
  have hn := line63
  have I' : Inv X pins σ (upd H p (.lst (xs.set j v))) { s with heap := s.heap.update p (Obj.mapSeq (·.setIfInBounds j u)) } :=
    I.lstUpd hp ho (mapSeq_set its n j u) (r.set rv j) (by rw [List.length_set]; exact hz) s.toks
  by_cases h0 : 0 ≤ k
  · have hk : k.toNat = j := by
      rw [seqIndex_of h0 h4] at h1
      exact Option.some.inj h1
    exact PySem.W.ki_setAt ho h0 (by omega) (by rw [List.size_toArray, ← hl]; exact h4) (by rw [hk]; exact ⟨_, I', q⟩)
  · have hk : (k + (its.toArray.size : Int)).toNat = j := by
      rw [seqIndex_neg (by omega) h3] at h1
      rw [List.size_toArray, ← hl]
      exact Option.some.inj h1
    exact PySem.W.ki_setBack ho (by omega) (by rw [List.size_toArray, ← hl]; exact h3) (by omega) (by rw [hk]; exact ⟨_, I', q⟩)

def flatV : V → Bool
  | .non => true
  | .bl _ => true
  | .int _ => true
  | .str _ => true
  | _ => false
def eqV : V → V → Bool
  | .non, .non => true
  | .bl a, .bl b => a == b
  | .bl a, .int b => (if a then 1 else 0) == b
  | .int a, .bl b => a == (if b then 1 else 0)
  | .int a, .int b => a == b
  | .str a, .str b => a == b
  | _, _ => false
theorem eqAt_V {A : Around} {s : Shared} {y x : V} {u v : Value} (ry : RelV y u) (rx : RelV x v) (fy : flatV y = true) (fx : flatV x = true) : SeqAt.EqAt A s u v (eqV y x) := by
  cases y with
  | non =>
    cases ry
    cases x with
    | non => cases rx; exact SeqAt.EqAt.same _
    | bl b => cases rx; exact SeqAt.EqAt.none_bool b
    | int b => obtain ⟨t, rfl⟩ := rx; exact SeqAt.EqAt.none_int b t
    | str b => obtain ⟨t, rfl⟩ := rx; exact SeqAt.EqAt.none_str b t
    | _ => exact absurd (show false = true from fx) Bool.false_ne_true
  | bl a =>
    cases ry
    cases x with
    | non => cases rx; exact SeqAt.EqAt.bool_none a
    | bl b => cases rx; exact SeqAt.EqAt.bool_bool a b
    | int b => obtain ⟨t, rfl⟩ := rx; exact SeqAt.EqAt.bool_int a b t
    | str b => obtain ⟨t, rfl⟩ := rx; exact SeqAt.EqAt.bool_str a b t
    | _ => exact absurd (show false = true from fx) Bool.false_ne_true
  | int a =>
    obtain ⟨t', rfl⟩ := ry
    cases x with
    | non => cases rx; exact SeqAt.EqAt.int_none a t'
    | bl b => cases rx; exact SeqAt.EqAt.int_bool a t' b
    | int b => obtain ⟨t, rfl⟩ := rx; exact SeqAt.EqAt.int_int a t' b t
    | str b => obtain ⟨t, rfl⟩ := rx; exact SeqAt.EqAt.int_str a t' b t
    | _ => exact absurd (show false = true from fx) Bool.false_ne_true
  | str a =>
    obtain ⟨t', rfl⟩ := ry
    cases x with
    | non => cases rx; exact SeqAt.EqAt.str_none a t'
    | bl b => cases rx; exact SeqAt.EqAt.str_bool a t' b
    | int b => obtain ⟨t, rfl⟩ := rx; exact SeqAt.EqAt.str_int a t' b t
    | str b => obtain ⟨t, rfl⟩ := rx; exact SeqAt.EqAt.str_str a t' b t
    | _ => exact absurd (show false = true from fx) Bool.false_ne_true
  | _ => exact absurd (show false = true from fy) Bool.false_ne_true
theorem call_len_seq : CallR X (.builtin "len") (fun xs H Q => ∃ p ys, xs = [.ref p] ∧ (SqL X.K H p ys ∨ SqT X.K H p ys) ∧ Q (.int ys.length) H) := by
  intro pins s σ H xs us Q I r h
  obtain ⟨p, ys, rfl, hq, q⟩ := h
  obtain ⟨u, rfl, rx⟩ := vals1 r
  cases rx
  have hn := line63
  rcases hq with hq | hq
  · obtain ⟨its, r', pl, hz⟩ := I.list hq
    have hlen := r'.length
    exact Calls.call_len_list pl.isList (by simp only [List.size_toArray] <;> omega) ⟨.int ys.length, H, I.tok _, ⟨s.toks + 1, by rw [List.size_toArray, hlen]⟩, q⟩
  · obtain ⟨its, r', pl, hz⟩ := I.tuple hq
    have hlen := r'.length
    exact len_tuple pl (by simp only [List.size_toArray] <;> omega) ⟨.int ys.length, H, I.tok _, ⟨s.toks + 1, by rw [List.size_toArray, hlen]⟩, q⟩
theorem call_len_str : CallR X (.builtin "len") (fun xs H Q => ∃ z, xs = [.str z] ∧ z.length ≤ sizeLine ∧ Q (.int z.length) H) := by
  intro pins s σ H xs us Q I r h
  obtain ⟨z, rfl, hz, q⟩ := h
  obtain ⟨u, rfl, t, rfl⟩ := vals1 r
  have hn := line63
  exact len_str (by omega) ⟨.int z.length, H, I.tok _, ⟨_, rfl⟩, q⟩
theorem call_tuple_of : CallR X (.type "tuple") (fun xs H Q => ∃ p ys, xs = [.ref p] ∧ ((SqL X.K H p ys ∧ ∀ l, H l = none → Q (.ref l) (upd H l (.tup ys))) ∨ (SqT X.K H p ys ∧ Q (.ref p) H))) := by
  intro pins s σ H xs us Q I r h
  obtain ⟨p, ys, rfl, h⟩ := h
  obtain ⟨u, rfl, rx⟩ := vals1 r
  cases rx
  rcases h with ⟨hq, q⟩ | ⟨hq, q⟩
  · obtain ⟨its, r', pl, hz⟩ := I.list hq
    have hlen := r'.length
    refine call_tuple_list pl.isList (fun h' kp => ?_) (by simp only [List.size_toArray] <;> omega)
    have I1 : Inv X pins σ H { s with heap := h' } := I.kept (t' := s.toks) kp
    have I2 : Inv X pins σ (upd H h'.objs.size (.tup ys)) { s with heap := h'.push { cls := .type "tuple", data := .seq its.toArray } } :=
      I1.laid (t' := s.toks) (fun b o e => Heap.get?_push_of_some _ e) (Nat.le_refl _) (show ObjOk X.prog X.w _ _ _ (.tup ys) from ⟨hz, its, r', IsTupN.new _ _⟩)
    exact ⟨.ref h'.objs.size, _, I2, rfl, q _ (I1.hok.fresh (Nat.le_refl _))⟩
  · obtain ⟨its, r', pl, hz⟩ := I.tuple hq
    exact call_tuple_same pl ⟨.ref p, H, I, rfl, q⟩

def tyV (K : PySem.W.Frag) (T : String) (x : V) (H : Hp) : Prop := match x with
  | .str _ => T = "str"
  | .int _ => T = "int"
  | .ref p => (T = "list" ∧ ∃ xs, SqL K H p xs) ∨ (T = "tuple" ∧ ∃ o, K.lookup p = some o ∧ o.cls = .type "tuple" ∧ o.dict = none) ∨
      (T = "dict" ∧ ((∃ kvs, H p = some (.dK kvs)) ∨ ∃ kvs, H p = some (.dT kvs))) ∨ (T = "set" ∧ ∃ S n, H p = some (.set S n))
  | _ => False
theorem tyV_is {pins : List (Addr × Obj)} {σ : St} {H : Hp} {s : Shared} {T : String} {x : V} {v : Value} (I : Inv X pins σ H s) (r : RelV x v) (ty : tyV X.K T x H) :
    s.TypeIs v T ∧ ∀ a, v = .ref a → ∃ ob, s.heap.get? a = some ob ∧ ob.dict = none := by
  cases x with
  | str z =>
    obtain ⟨t, rfl⟩ := r
    cases (show T = "str" from ty)
    exact ⟨typeIs_str s z t, fun _ e => nomatch e⟩
  | int i =>
    obtain ⟨t, rfl⟩ := r
    cases (show T = "int" from ty)
    exact ⟨typeIs_int s i t, fun _ e => nomatch e⟩
  | ref p =>
    cases r
    rcases ty with ⟨rfl, xs, hq⟩ | ⟨rfl, o, hk, hc, hd⟩ | ⟨rfl, hk⟩ | ⟨rfl, S, n, hk⟩
    · obtain ⟨its, _, pl, _⟩ := I.list hq
      refine ⟨pl.isList.typeIs, fun a e => ?_⟩
      cases e
      obtain ⟨o, n, e, c, hd, _⟩ := pl
      exact ⟨o, e, hd⟩
    · refine ⟨⟨o, I.kIn p o hk, hc⟩, fun a e => ?_⟩
      cases e
      exact ⟨o, I.kIn _ o hk, hd⟩
    · have z : ∃ o, s.heap.get? p = some o ∧ o.ExactDict := by
        rcases hk with ⟨kvs, hk⟩ | ⟨kvs, hk⟩
        · obtain ⟨_, _, _, _, o, _, _, e, ex, _⟩ := I.hok p _ hk
          exact ⟨o, e, ex⟩
        · obtain ⟨_, _, _, _, o, _, _, e, ex, _⟩ := I.hok p _ hk
          exact ⟨o, e, ex⟩
      obtain ⟨o, e, ex⟩ := z
      refine ⟨⟨o, e, ex.1⟩, fun a e2 => ?_⟩
      cases e2
      exact ⟨o, e, ex.2.1⟩
    · obtain ⟨o, _, _, _, e, ex, _⟩ := I.hok p _ hk
      refine ⟨⟨o, e, ex.1⟩, fun a e2 => ?_⟩
      cases e2
      exact ⟨o, e, ex.2.1⟩
  | _ => exact False.elim ty
def tBM (K : PySem.W.Frag) (T : String) (r : V → List V → Hp → VK → Prop) (to : TE) (t : TA) : TE := fun σ H Q => to σ H fun x H1 => tyV K T x H1 ∧ t σ H1 fun xs H2 => r x xs H2 Q
variable {o e : Expr} {es : List Expr} {to : TE} {t : TA} {name : Str} {apos cpos : Pos} {T id : String} {r : V → List V → Hp → VK → Prop}
theorem pe_bm (pa : PlainAttrs T) (slot : Slot T name id) (hty : typeOf (.builtin id) = pure (.type "method_descriptor")) (hm : MtR X id r) (ho : PE X o to) (ha : PA X (e :: es) t)
    (hbase : attributeBase o name X.env (eval o X.env) = eval o X.env := by rfl)
    (hfew : ((backTo cpos (starEach (e :: es) X.env)).all (fun x => !x.1) && (backToKw cpos (keywordEach [] X.env)).all (fun x => x.1.isSome)
      && decide ((e :: es).length + ([] : List Keyword).length + (if ([] : List Keyword).isEmpty then 0 else 1) < 30)) = true := by rfl)
    (hline : (apos.endLine == cpos.line) = true := by rfl) (hs : starEach (e :: es) X.env = (false, eval e X.env) :: starEach es X.env := by rfl) (hplain : (backTo cpos (starEach es X.env)).any (·.1) = false := by rfl) :
    PE X (.Call (.Attribute o name apos) (e :: es) [] cpos) (tBM X.K T r to t) := by
  intro pins s σ H Q I h
  refine wpAny_Call_method_late hbase hfew hline rfl (thn (ho pins s σ H _ I h) fun v s1 ⟨x, H1, I1, r1, ty, q1⟩ => ?_)
  obtain ⟨h1, h2⟩ := tyV_is I1 r1 ty
  refine ⟨T, id, pa, slot, hty, h1, h2, ?_⟩
  have hA := ha cpos pins s1 σ H1 _ I1 q1
  rw [hs] at hA ⊢
  refine Calls.callWith_builtin (by show (false || (backTo cpos (starEach es X.env)).any (·.1)) = false; rw [hplain] <;> rfl) (Calls.evalArgs_plain ?_)
  exact thn hA fun us s2 ⟨vs, H2, I2, r2, q2⟩ => hm pins s2 σ H2 x vs v us Q I2 r1 r2 q2
/- xs.append(e), list.index on a module's tuple .. are MtR facts of 06m -/
end
end L2

namespace L2
open PySem PySem.Spec PyProof.Rows

def MtM (X : Cx) (id : String) (r : V → List V → Hp → VK → Prop) : Prop :=
  ∀ (pins : List (Addr × Obj)) (s : Shared) (σ : St) (H : Hp) (x : V) (xs : List V) (v : Value) (us : List Value) (Q : VK), Inv X pins σ H s → RelV x v → Vals xs us → r x xs H Q →
    wpAny (model X.prog X.w) X.A (call (.builtin id) (v :: us)) (EP X pins σ Q) X.xe s

theorem Vals.one : ∀ {x : V} {us : List Value}, Vals [x] us → ∃ u, us = [u] ∧ RelV x u
  | _, _, .cons r .nil => ⟨_, rfl, r⟩
theorem Vals.two : ∀ {x y : V} {us : List Value}, Vals [x, y] us → ∃ u v, us = [u, v] ∧ RelV x u ∧ RelV y v
  | _, _, _, .cons r (.cons q .nil) => ⟨_, _, rfl, r, q⟩
section
variable {X : Cx} {pins : List (Addr × Obj)} {σ : St} {H : Hp} {s : Shared} {l b : Addr} {xs ys zs : List V}

theorem Inv.lset {its its' : List Value} {n : Nat} {f : Array Value → Array Value} {t' : Nat} (I : Inv X pins σ H s) (hH : H l = some (.lst xs))
    (e : s.heap.get? l = some { cls := .type "list", data := .seq its.toArray n }) (hf : f its.toArray = its'.toArray) (hv : Vals ys its') (hz : ys.length ≤ sizeLine) :
    Inv X pins σ (upd H l (.lst ys)) { s with heap := s.heap.update l (Obj.mapSeq f), toks := t' } := by
  have q := PySem.IsL.update e f
  rw [hf] at q
  refine I.write (x := l) (e := l) (by rw [hH]; exact trivial) (.inl rfl) (fun b' u hb hu => (Heap.get?_update_other s.heap (Obj.mapSeq f) (Ne.symm hb)).trans hu) ⟨_, q⟩ ?_
  exact ⟨hz, its', _, hv, q⟩
theorem Inv.lnew {its : List Value} {t' : Nat} (I : Inv X pins σ H s) (hv : Vals ys its) (hz : ys.length ≤ sizeLine) :
    Inv X pins σ (upd H s.heap.objs.size (.lst ys)) { s with heap := s.heap.push { cls := .type "list", data := .seq its.toArray }, toks := t' } :=
  I.laid (fun _ _ q => Heap.get?_push_of_some _ q) (Nat.le_refl _) ⟨hz, its, 0, hv, Heap.get?_push_size _ rfl⟩
theorem Inv.fresh (I : Inv X pins σ H s) : H s.heap.objs.size = none := I.hok.fresh (Nat.le_refl _)
theorem Inv.lstM (I : Inv X pins σ H s) (hH : H l = some (.lst xs)) : xs.length ≤ sizeLine ∧ ∃ (its : List Value) (n : Nat), Vals xs its ∧ xs.length = its.length ∧ s.heap.get? l = some { cls := .type "list", data := .seq its.toArray n } := by
  obtain ⟨z, its, n, r, e⟩ := I.hok l _ hH
  exact ⟨z, its, n, r, r.length, e⟩

end

section
variable {X : Cx}

def rAppend : V → List V → Hp → VK → Prop := fun x vs H Q => ∃ l xs y, x = .ref l ∧ vs = [y] ∧ H l = some (.lst xs) ∧ xs.length < sizeLine ∧ Q .non (upd H l (.lst (xs ++ [y])))
theorem mt_append : MtM X "list.append" rAppend := by
  intro pins s σ H x vs v us Q I rx rv h
  obtain ⟨l, xs, y, rfl, rfl, hH, hz, q⟩ := h
  cases rx
  obtain ⟨u, rfl, ru⟩ := rv.one
  obtain ⟨z, its, n, r, hl, e⟩ := I.lstM hH
  refine call_meets F.slot_list_append ⟨_, e, rfl⟩ F.entry_list_append (F.args_list_append_2 _ _) (PySem.list_append l its.toArray n u (by rw [List.size_toArray]; omega)) ⟨e, ?_⟩
  refine ⟨.non, _, I.lset (its' := its ++ [u]) hH e (by simp) (r.append (.cons ru .nil)) ?_, rfl, q⟩
  rw [List.length_append, List.length_singleton]
  omega

def rCat : R2 := fun x y H Q => ∃ l b xs zs, x = .ref l ∧ y = .ref b ∧ H l = some (.lst xs) ∧ H b = some (.lst zs) ∧ xs.length + zs.length ≤ sizeLine ∧ ∀ p, H p = none → Q (.ref p) (upd H p (.lst (xs ++ zs)))
theorem op_cat : OpR X (binaryOp .Add) rCat := by
  intro pins s σ H x y v u Q I rx ry h
  obtain ⟨l, b, xs, zs, rfl, rfl, hH, hB, hz, q⟩ := h
  cases rx
  cases ry
  obtain ⟨z, its, n, r, hl, e⟩ := I.lstM hH
  obtain ⟨z2, its2, n2, r2, hl2, e2⟩ := I.lstM hB
  refine PySem.P.add_list e e2 ?_ (by rw [List.size_toArray, List.size_toArray]; omega)
  have ea : its.toArray ++ its2.toArray = (its ++ its2).toArray := by simp
  rw [ea]
  exact ⟨.ref _, _, I.lnew (t' := s.toks) (r.append r2) (by rw [List.length_append]; omega), rfl, q _ I.fresh⟩
end

section
variable {prog : Program} {w : World} {A : Around} {E : Value → Shared → Prop} {s : Shared}
end

section
variable {X : Cx}
end
end L2



set_option Elab.async false
set_option linter.all false
set_option maxRecDepth 100000
namespace L2
open PySem PySem.Spec PyProof.Rows

section
variable {κ : Type} [DecidableEq κ]
end


section
variable {P : Program} {w : World} {H : Hp} {h : Heap} {a : Addr}
end

section
variable {X : Cx} {pins : List (Addr × Obj)} {σ : St} {H : Hp} {s : Shared} {a : Addr} {y v : V} {u r : Value} {o : Option V} {A : Around} {E : Value → Shared → Prop}

end

section
variable {X : Cx} {pins : List (Addr × Obj)} {σ : St} {H : Hp} {s : Shared} {a : Addr} {kvs : List (Key × V)} {k : Key} {u : Value} {A : Around} {E : Value → Shared → Prop}
end


section
variable {X : Cx} {o i e value : Expr} {pos pos' tpos : Pos} {td ty tv : TE}
end


section
variable {X : Cx} {pos : Pos}
end

section
variable {X : Cx} {pins : List (Addr × Obj)} {σ : St} {H : Hp} {s : Shared} {a : Addr} {y d : V} {u r : Value} {o : Option V} {A : Around} {E : Value → Shared → Prop}
end

section
variable {X : Cx} {o e f : Expr} {apos cpos : Pos} {td ty tx : TE}
end

section
variable {X : Cx} {pins : List (Addr × Obj)} {σ : St} {H : Hp} {s : Shared} {a : Addr} {kvs : List (Key × V)} {A : Around} {E : Value → Shared → Prop}
end


section
variable {X : Cx} {pins : List (Addr × Obj)} {σ : St} {H : Hp} {s : Shared} {a : Addr} {y : V} {u : Value} {A : Around} {E : Value → Shared → Prop}
end
end L2



set_option Elab.async false
set_option linter.all false
set_option maxRecDepth 100000
namespace Att
open PySem PySem.W PySem.Calls PyProof.Rows

theorem ints_of_wellAll {P : Params} {h : Heap} : ∀ (ns : List Int) (vs : List Value), WellAll P h vs (ns.map WData.int) → IntsAre vs ns := by
  intro ns
  induction ns with
  | nil =>
    intro vs w
    rw [List.map_nil] at w
    cases w
    exact .nil
  | cons n ns ih =>
    intro vs w
    rw [List.map_cons] at w
    cases w with
    | cons a b =>
      cases a
      exact .cons _ _ (ih _ b)

theorem script_of {l : OpenLaw} {n : Nat} (hn : l.most = some n) {P : Params} {h : Heap} {args : List WData} {vals : List Value}
    (hpre : l.row.toRowW.claim.pre args = true) (hwl : WellAll P h vals args) :
    ∃ a vs ns, vals = [Value.ref a] ∧ args = [WData.list (ns.map WData.int)] ∧ h.get? a = some { cls := .type "list", data := .seq vs.toArray } ∧ IntsAre vs ns ∧ ns.length ≤ n := by
  have hsh : WShape.hasAll [] args [.list .int] = true := (pre_splitW hpre).1
  have hc : l.pre.holds [] { args := args } = true := (pre_splitW hpre).2
  obtain ⟨d, r, rfl, h1, h2⟩ := hasAllW_cons hsh
  obtain rfl := hasAllW_nil h2
  obtain ⟨xs, rfl, h3⟩ := hasW_list h1
  obtain ⟨ns, rfl⟩ := items_int h3
  have hlen : ns.length ≤ n := by
    unfold OpenLaw.pre at hc
    have h4 : (WTm.not (.lt (.lit (.int (n : Int))) (.len (.arg 0)))).holds [] { args := [.list (ns.map .int)] } = true := by
      have h4 := (holds_andW hc).1
      rw [hn] at h4
      exact h4
    have h5 := condW_of h4 (w_not (w_lt w_lit (w_len_list (w_arg rfl))))
    rw [List.length_map] at h5
    refine Nat.le_of_not_lt fun q => ?_
    have q' : (n : Int) < ((ns.length : Nat) : Int) := by omega
    first
      | (rw [decide_eq_true q'] at h5; exact absurd h5 (by decide))
      | (simp at h5; omega)
  cases hwl with
  | cons w1 w2 =>
    cases w2
    cases w1 with
    | list ho hall => exact ⟨_, _, ns, rfl, rfl, ho, ints_of_wellAll ns _ hall, hlen⟩

theorem post_true (l : OpenLaw) (args : List WData) : l.row.toRowW.claim.post args (.bool true) args = true :=
  postW_of (r := l.row.toRowW) (X := (true == true))
    (show WShape.has [] (.bool true) .bool = true by first | rfl | decide | simp [WShape.has, WShape.arms, WShape.armsAll])
    (show (WTm.eq .res (.lit (.bool true))).value [] { args := args, res := some (.bool true), after := args } = some (.bool (true == true)) from w_eq_bool (w_res rfl) w_lit) rfl

section
variable {prog : Program} {w : World} {A : Around} {E : Value → Shared → Prop} {s : Shared} {K : Frag}

end
end Att

namespace L2
open PySem PySem.Spec PyProof.Rows

theorem vals_ints : ∀ {vs : List Value} {ns : List Int}, IntsAre vs ns → Vals (ns.map V.int) vs
  | _, _, .nil => .nil
  | _, _, .cons n t h => .cons ⟨t, rfl⟩ (vals_ints h)

def Only (H : Hp) : Prop := ∀ b, H b = none ∨ ∃ o xs, H b = some (.frz o (.lst xs))

theorem law_call {P : Program} {w : World} {K : PySem.W.Frag} {mg mb : Str → Option Value} {CX : CXT} {k : Nat} {fa a : Addr} {fd : FuncData} {x : Str} {sp : Sp} {s₁ : Shared} {vs : List Value} {ns : List Int}
    (KX : K.In s₁.heap) (hns : s₁.heap.Ns mainGlobals mg) (hb : s₁.heap.Ns builtinsNs mb) (hbb : ∀ x : Str, x ≠ "__name__" → mb x = bootBuiltins x) (hlim : s₁.heap.NoLimit) (hg : s₁.gens = #[])
    (ha : s₁.heap.get? a = some { cls := .type "list", data := .seq vs.toArray }) (hi : IntsAre vs ns) (hl : ns.length ≤ sizeLine) (hr : Room k callerA)
    (F : ∀ base : Heap, K.In base → base.Ns mainGlobals mg → FnOk P w K mg base CX k fa fd [x] sp) (hbind : ∀ (s : Shared) (u : Value), BindsTo s fd ⟨[u], []⟩ [(x, u)])
    (hsp : ∀ H : Hp, Only H → SqL K H a (ns.map V.int) → sp [.ref a] H (fun v _ => v = .bl true) fun _ _ _ => False)
    (hCX : ∀ H e s', CX [] H s₁ (fun _ _ _ => False) e s' → False) :
    codeAny (model P w) callerA (.call (.ref fa) ⟨[.ref a], []⟩) (fun r s' => r = .ok (.ret (.bool true)) ∧ OldK s₁.heap s'.heap ∧ s'.os = s₁.os ∧ AllBare s'.gens) s₁ := by
  have rv := vals_ints hi
  have lenV := hi.length
  -- from an abstract heap in which nothing but the script may be tracked
  have core : ∀ H : Hp, Only H → SqL K H a (ns.map V.int) → HOk P w H s₁.heap → (∀ b, H b ≠ none → b = a) → (H a ≠ none → K.lookup a = none) →
      codeAny (model P w) callerA (.call (.ref fa) ⟨[.ref a], []⟩) (fun r s' => r = .ok (.ret (.bool true)) ∧ OldK s₁.heap s'.heap ∧ s'.os = s₁.os ∧ AllBare s'.gens) s₁ := by
    intro H hO hS hok hA hK
    have base_of : ∀ {b : Addr} {o : Obj}, s₁.heap.get? b = some o → H b = none → (hidT s₁.heap H).get? b = some o := fun e n => hidT_get e n
    have noA : ∀ {b : Addr} {o : Obj} {es : Array DictEntry} {ep : Nat}, s₁.heap.get? b = some o → o.data = .dict es ep → H b = none := fun {b o es ep} e d => by
      cases q : H b with
      | none => rfl
      | some u =>
        have e' : b = a := hA b (by rw [q]; simp)
        subst e'
        rw [ha] at e; cases e
        have d' : Data.seq vs.toArray _ = Data.dict es ep := d
        cases d'
    have nsK : ∀ {b : Addr} {m : Str → Option Value}, s₁.heap.Ns b m → (hidT s₁.heap H).Ns b m := fun {b m} ⟨o, es, ep, e, d, r⟩ => ⟨o, es, ep, base_of e (noA e d), d, r⟩
    have hKb : K.In (hidT s₁.heap H) := fun b o e => base_of (KX b o e) (by
      cases q : H b with
      | none => rfl
      | some u =>
        have e' : b = a := hA b (by rw [q]; simp)
        subst e'
        rw [hK (by rw [q]; simp)] at e; cases e)
    have hM : Mod K mg (hidT s₁.heap H) := ⟨hKb, nsK hns, ⟨mb, nsK hb, hbb⟩, let ⟨mc, h1, h2⟩ := hlim; ⟨mc, nsK h1, h2⟩⟩
    have e0 : Env0 P w K mg (hidT s₁.heap H) callerA [] s₁ H := ⟨rfl, hM, fun b o e => of_hidT e, Nat.le_of_eq (hidT_size _ _), trivial, fun b hb => absurd (show b ∈ ([] : List Addr) from hb) (by simp), hok, .of_eq hg⟩
    refine codeAny_mono ((F _ hKb (nsK hns)).run callerA [] s₁ H ⟨[.ref a], []⟩ [.ref a] [.ref a] _ _ hr e0 (hbind s₁ (.ref a)) (.cons rfl .nil) (hsp H hO hS)) fun r s' h => ?_
    cases r with
    | error e => exact (hCX H e s' h).elim
    | ok fl =>
      cases fl with
      | next => exact False.elim h
      | brk => exact False.elim h
      | cont => exact False.elim h
      | ret u =>
        obtain ⟨v, H', os, bare, un, hok', r', q⟩ := h
        have q' : v = .bl true := q
        subst q'
        obtain rfl : u = Value.bool true := r'
        refine ⟨rfl, OldK.of_keep fun b o e => ?_, os, bare⟩
        cases q : H b with
        | none => exact un.keep b o e q (by intro z; exact absurd (show b ∈ ([] : List Addr) from z) (by simp)) (by simp)
        | some u =>
          rcases hO b with z | ⟨ob, xs, z⟩
          · rw [q] at z; cases z
          · have z2 := un.frzs b ob _ z
            obtain ⟨e1, _⟩ := hok b _ z
            obtain ⟨e2, _⟩ := hok' b _ z2
            rw [e] at e1; cases e1
            exact e2
  cases hk : K.lookup a with
  | some o =>
    -- the script is one of the module's own objects
    have e := KX a o hk
    rw [ha] at e
    cases e
    refine core (fun _ => none) (fun _ => .inl rfl) (.inr ⟨_, vs.toArray, _, hk, rfl, rfl, rfl, by rw [List.size_toArray, lenV]; exact hl, by simpa using rv⟩) (fun b u z => by have z' : (none : Option HO) = some u := z; cases z') (fun b z => absurd rfl z) fun z => absurd rfl z
  | none =>
    refine core (fun b => if b = a then some (.frz { cls := .type "list", data := .seq vs.toArray } (.lst (ns.map V.int))) else none) (fun b => ?_) (.inl (.inr ⟨{ cls := .type "list", data := .seq vs.toArray }, if_pos rfl⟩)) (fun b u z => ?_) (fun b z => ?_) fun _ => hk
    · by_cases hb : b = a
      · exact .inr ⟨_, _, if_pos hb⟩
      · exact .inl (if_neg hb)
    · by_cases hb : b = a
      · have z' := (if_pos hb).symm.trans z
        cases z'
        subst hb
        exact ⟨ha, by rw [List.length_map]; exact hl, vs, _, rv, ha⟩
      · have z' := (if_neg hb).symm.trans z
        cases z'
    · by_cases hb : b = a
      · exact hb
      · exact absurd (if_neg hb) z
end L2

namespace L2
open PySem PySem.Spec PyProof.Rows

end L2

/- THE LAST THEOREM (shape; LID, My.* are yours):
   My.Adr: a structure of the addresses that your layer names (classes, functions); My.Txt K t: a structure (Prop) of the equations over K;
   My.txt_mk : {K} {implicit addresses ..} (e1 : nsIn K mainGlobals "law" = some (some (.ref f))) (e2 : K.lookup f = some ⟨oc, od, .func (fnOf "law" "law" params body scope dV kV doc pm an cdv ct), sl⟩) (e3 : codeIn K cdv "law" = true) .. : ∃ t, My.Txt K t

set_option maxRecDepth 100000 in
set_option maxHeartbeats 0 in
theorem PySem.Challenge.cw_LID_holds : PySem.Challenge.rw_LID.Holds := by
  w_on; o_law; k_head; (case hw => w_witness2)
  k_fill
  refine L2.walk_of (l := PySem.Challenge.rw_LID) (n := 63) (k := 40) (x := "script") (CX := fun w => ..) (sp := fun _ => My.sp_law) rfl (by decide) rfl ⟨rfl, by decide, by decide⟩ (fun w h Y => PySem.W.kIn_of Y) ?F ?S ?C
  case F =>
    intro w mg fa h KX G hmg
    have T : ∃ t, My.Txt (L2.KOf KX) t := by
      dsimp only [L2.KOf]                          -- K must stand as «<heap const> w.params» for k_is
      refine' My.txt_mk ?e1 ?e2 ?e3 ..
      (case e1 => PySem.W.k_is)                    -- in the order: a name -> its address -> its object -> its parts
      (case e2 => PySem.W.k_is)
      ..
    obtain ⟨t, T⟩ := T
    have e0 := hmg.symm.trans (PySem.W.mg_of KX G T.law)
    cases e0                                       -- fa is the law's own address
    exact ⟨_, fun s u => .of_eq rfl, fun base kb nb => My.law_fn T kb nb⟩     -- if «.of_eq rfl» comes too early: refine' ⟨_, ?b, fun base kb nb => My.law_fn T kb nb⟩; exact fun s u => .of_eq rfl
  case S => exact fun w H a ns hl hO hS => ..
  case C => exact ..
(the tactic k_is has no namespace: write k_is) -/

namespace L2
open PySem PySem.Spec PyProof.Rows

def defArgs (s : Stmt) : Arguments := match s with
  | .FunctionDef _ a _ _ _ _ _ _ _ _ => a
  | _ => { posonlyargs := [], args := [], vararg := none, kwonlyargs := [], kw_defaults := [], kwarg := none, defaults := [] }
def defBody (s : Stmt) : List Stmt := match s with
  | .FunctionDef _ _ b _ _ _ _ _ _ _ => b
  | _ => []
def defScope (s : Stmt) : Scope := match s with
  | .FunctionDef _ _ _ _ _ _ sc _ _ _ => sc
  | _ => { kind := .function, names := [], isGenerator := false, isCoroutine := false }

abbrev CX0 : CXT := fun _ _ _ _ _ _ => False
abbrev E0 : XK := fun _ _ _ => False
theorem pass0 {X : Cx} : Passes CX0 X E0 := fun _ _ _ _ _ _ _ h => h.elim

structure Fun (K : PySem.W.Frag) (x qual : Str) (st : Stmt) (f : Addr) (fd : FuncData) : Prop where
  ex : ∃ (oc : Value) (od : Option Addr) (kV doc pm : Value) (an : Option Addr) (cdv ct : Value) (osl : Array (Option Value)),
    fd = PySem.W.fnOf x qual (defArgs st) (defBody st) (defScope st) .none kV doc pm an cdv ct ∧ K.lookup f = some ⟨oc, od, .func fd, osl⟩ ∧ PySem.W.codeIn K cdv qual = true
  kp : PySem.W.keepIn K (.ref f) = true
section
variable {P : Program} {w : World} {K : PySem.W.Frag} {mg : Str → Option Value} {base : Heap}
theorem Fun.ok {x qual : Str} {st : Stmt} {f : Addr} {fd : FuncData} {N ps : List Str} {k : Nat} {sp : Sp} (F : Fun K x qual st f fd) (S : FnScope N ps (defScope st)) (len : ∀ vs H Q E, sp vs H Q E → vs.length = ps.length)
    (hbody : ∀ (cdv : Value) (A : Around) (outer : List Env) (s : Shared) (H : Hp) (vs : List V) (Q : VK) (E : XK), Room k (A.deeper (envOfC qual (defScope st) s.heap.objs.size f cdv)) → sp vs H Q E →
      ∃ t, PSs (cxOf CX0 P w K mg base N qual (defScope st) f cdv A outer s H E).nox (defBody st) t ∧ t { nx := fun _ H' => Q .non H', rt := Q } (start N vs) H) : FnOk P w K mg base CX0 (k + 1) f fd ps sp := by
  obtain ⟨oc, od, kV, doc, pm, an, cdv, ct, osl, rfl, lk, hcd⟩ := F.ex
  refine fn_of lk hcd S len fun A outer s H vs Q E hr hsp => ?_
  obtain ⟨t, h, q⟩ := hbody cdv A outer s H vs Q E hr hsp
  exact ⟨t, h.nox, q⟩
theorem Fun.binds {x qual : Str} {st : Stmt} {f : Addr} {fd : FuncData} {ps : List Str} (F : Fun K x qual st f fd)
    (h : ∀ (kV doc pm : Value) (an : Option Addr) (cdv ct : Value) (us : List Value), us.length = ps.length → bindArgs (PySem.W.fnOf x qual (defArgs st) (defBody st) (defScope st) .none kV doc pm an cdv ct) ⟨us, []⟩ = pure (ps.zip us)) : Binds K fd ps [] := by
  obtain ⟨oc, od, kV, doc, pm, an, cdv, ct, osl, rfl, lk, hcd⟩ := F.ex
  exact .all (h kV doc pm an cdv ct)
theorem fun_mk {x qual : Str} {st : Stmt} {f : Addr} {oc : Value} {od an : Option Addr} {osl : Array (Option Value)} {kV doc pm cdv ct : Value} (l : K.lookup f = some ⟨oc, od, .func (PySem.W.fnOf x qual (defArgs st) (defBody st) (defScope st) .none kV doc pm an cdv ct), osl⟩)
    (c : PySem.W.codeIn K cdv qual = true) (k : PySem.W.keepIn K (.ref f) = true) : Fun K x qual st f (PySem.W.fnOf x qual (defArgs st) (defBody st) (defScope st) .none kV doc pm an cdv ct) := ⟨⟨oc, od, kV, doc, pm, an, cdv, ct, osl, rfl, l, c⟩, k⟩
end
theorem hu_of {A : Around} {k : Nat} (hr : Room k A) : A.units + 1 < cLine := Nat.lt_of_le_of_lt (Nat.add_le_add_left (by decide : 1 ≤ 64) _) hr.units
section
variable {X : Cx}
theorem pv (i : Nat) {x : Str} {pos : Pos} (hN : X.N[i]? = some x := by rfl) (hv : Vis X.env.scope x := by first | exact Or.inl rfl | exact Or.inr (Or.inl rfl) | exact Or.inr (Or.inr rfl)) (hd : (x == ("__debug__" : Str)) = false := by decide)
    (hcd : (x == ("__classdict__" : Str)) = false := by decide) : PE X (.Name x pos) (tVar i) := pe_var hN hv hd hcd
end

theorem iteF {A B : Prop} (h : B) : if false = true then A else B := by
  rw [if_neg Bool.false_ne_true]
  exact h
theorem iteT {A B : Prop} (h : A) : if true = true then A else B := by
  rw [if_pos rfl]
  exact h
theorem ite2 {c A B : Prop} [Decidable c] (h1 : c → A) (h2 : ¬ c → B) : if c then A else B := by
  by_cases h : c
  · rw [if_pos h]
    exact h1 h
  · rw [if_neg h]
    exact h2 h
def Same (H H' : Hp) : Prop := ∀ b o, H b = some o → H' b = some o
theorem Same.trans {H H1 H2 : Hp} (a : Same H H1) (b : Same H1 H2) : Same H H2 := fun c o h => b c o (a c o h)
theorem Same.free {H H' : Hp} (e : Same H H') {l : Addr} (h : H' l = Option.none) : H l = Option.none := by
  cases q : H l with
  | none => rfl
  | some o =>
    rw [e l o q] at h
    cases h
theorem Same.seq {K : PySem.W.Frag} {H H' : Hp} {a : Addr} {xs : List V} (e : Same H H') (h : SqL K H a xs) : SqL K H' a xs := by
  rcases h with (h | ⟨o, h⟩) | h
  · exact .inl (.inl (e _ _ h))
  · exact .inl (.inr ⟨o, e _ _ h⟩)
  · exact .inr h

section
variable {κ : Type} [DecidableEq κ]
end
end L2



set_option Elab.async false
set_option linter.all false
set_option maxRecDepth 100000
set_option maxHeartbeats 4000000
namespace L2
open PySem PySem.Spec PyProof.Rows

structure Fly (P : Program) (w : World) (outer : List Env) (H : Hp) (s : Shared) (H' : Hp) (B : Heap) (s' : Shared) : Prop where
  os : s'.os = s.os
  bare : AllBare s'.gens
  un : Un (frs outer) [] H H' s.heap s'.heap
  kb : ∀ b o, s.heap.get? b = some o → H b = none → b ∉ frs outer → B.get? b = some o
  kt : ∀ b o, s.heap.get? b = some o → b ∉ frs outer → ∃ o', B.get? b = some o'
  hok : HOk P w H' B
def CXF (P : Program) (w : World) : CXT := fun outer H s E e s' =>
  ∃ (ea : Addr) (cls a0 : Value) (H' : Hp) (B : Heap), e = .ref ea ∧ Fly P w outer H s H' B s' ∧ Heap.FlyingW B outer ea cls a0 s'.heap ∧ E cls none H'

section
variable {P : Program} {w : World} {outer : List Env} {H H' : Hp} {s s' : Shared} {B h2 base : Heap}
theorem Fly.land {ea : Addr} {cls a0 : Value} {l : List Env} (F : Fly P w outer H s H' B s') (fr : s.heap.FunFrames base outer) (frf : ∀ b ∈ frs outer, H b = none) (fl : Heap.FlyingW B l ea cls a0 h2) (up : s'.heap.UpToSlots h2) : Un (frs outer) [] H H' s.heap h2 := by
  have sl : ∀ b o, s.heap.get? b = some o → b ∈ frs outer → ∃ sl, h2.get? b = some { o with slots := sl } := fun b o e hb => by
    obtain ⟨_, o', ho', hd⟩ := fr.mem hb
    rw [e] at ho'
    cases ho'
    obtain ⟨sl, e1⟩ := F.un.slot b o e (frf b hb) hb (by simp)
    obtain ⟨sl', e2⟩ := up b _ e1 hd
    exact ⟨sl', e2⟩
  refine ⟨fun b o e n hb _ => fl.1 b o (F.kb b o e n hb), fun b o e n hb _ => sl b o e hb, F.un.free, fun b o e _ => ?_, F.un.tups, F.un.frzs, F.un.tbls⟩
  by_cases hb : b ∈ frs outer
  · obtain ⟨q, e1⟩ := sl b o e hb
    exact ⟨_, e1⟩
  · obtain ⟨o', e1⟩ := F.kt b o e hb
    exact ⟨o', fl.1 b o' e1⟩
end

def Raises (X : Cx) (E : St → XK) : Prop := ∀ (pins : List (Addr × Obj)) (σ : St) (H : Hp) (s : Shared) (ea : Addr) (cls : Value) (args : List Value) (h' : Heap),
  Inv X pins σ H s → Heap.MadeExcOf s.heap h' ea cls args → E σ cls none H → X.xe (.ref ea) { s with heap := h' }
def PassesS (CX : CXT) (X : Cx) (E : St → XK) : Prop := ∀ (pins : List (Addr × Obj)) (σ : St) (H : Hp) (s : Shared) (e : Value) (s' : Shared), Inv X pins σ H s → CX X.stack H s (E σ) e s' → X.xe e s'

section
variable {X : Cx} {pins : List (Addr × Obj)} {σ : St} {H : Hp} {s : Shared}
theorem Inv.notStk (I : Inv X pins σ H s) {b : Addr} {o : Obj} (e : X.s₀.heap.get? b = some o) (hb : b ∉ X.fs) : b ∉ frs X.stack := fun z => by
  rcases List.mem_cons.mp (I.stkSub b z) with q | q
  · exact absurd (Nat.lt_of_lt_of_le (Heap.lt_size e) I.ok.above) (by rw [q]; exact Nat.lt_irrefl _)
  · exact hb q
theorem Inv.fly (I : Inv X pins σ H s) {h' : Heap} {ea : Addr} {cls : Value} {args : List Value} (M : Heap.MadeExcOf s.heap h' ea cls args) :
    Fly X.prog X.w X.stack H s H (PySem.W.hideAll s.heap (frs X.stack)) { s with heap := h' } := by
  refine ⟨rfl, I.bare, Un.kept M.keeps, fun b o e _ hb => PySem.W.hideAll_get _ e hb, fun b o e hb => ⟨o, PySem.W.hideAll_get _ e hb⟩, fun a o e => ?_⟩
  refine (I.hok a o e).stay (fun b u hb q => PySem.W.hideAll_get _ q fun z => ?_) (fun _ q => q) fun _ _ q => q
  have n := I.stkFree b z
  rcases hb with rfl | hb
  · rw [n] at e; cases e
  · rw [n] at hb; cases hb
end

section
variable {P : Program} {w : World} {K : PySem.W.Frag} {mg : Str → Option Value} {base : Heap} {N : List Str} {qual : Str} {scope : Scope} {f : Addr} {cd : Value} {A : Around} {outer : List Env} {s : Shared} {H : Hp} {E : XK}
theorem fly_out {pins : List (Addr × Obj)} {σ : St} {H1 H' : Hp} {s1 s' : Shared} {B h2 : Heap} {ea : Addr} {cls a0 : Value} (I : Inv (cxOf (CXF P w) P w K mg base N qual scope f cd A outer s H E) pins σ H1 s1)
    (F : Fly P w (envOfC qual scope s.heap.objs.size f cd :: outer) H1 s1 H' B s') (fl : Heap.FlyingW B outer ea cls a0 h2) (up : s'.heap.UpToSlots h2) : Fly P w outer H s H' B { s' with heap := h2 } := by
  have u := F.land I.stack I.stkFree fl up
  have J := I.call (h' := h2) (g' := s'.gens) (t' := s'.toks) (d' := s'.drawn) (ch := []) u (F.hok.kept fl.1) F.bare (fun b z => absurd z (by simp))
  refine ⟨F.os.trans I.os, F.bare, J.base, fun b o e n hb => ?_, fun b o e hb => ?_, F.hok⟩
  · exact F.kb b o (I.base.keep b o e n hb (by simp [cxOf])) (I.base.free b o e n (by simp [cxOf])) (I.notStk e hb)
  · obtain ⟨o', e1⟩ := I.base.there b o e (by simp [cxOf])
    exact F.kt b o' e1 (I.notStk e hb)
theorem raises_fn : Raises (cxOf (CXF P w) P w K mg base N qual scope f cd A outer s H E) (fun _ => E) := by
  intro pins σ H1 s1 ea cls args h' I M hE
  have F := I.fly M
  show wpAny (model P w) _ (leaving (envOfC qual scope s.heap.objs.size f cd) (.ref ea)) _ _ _
  refine wpAny_leaves_madeW (base := PySem.W.hideAll s1.heap (frs (envOfC qual scope s.heap.objs.size f cd :: outer))) (h := s1.heap) I.ok.frames rfl (fun b o q => PySem.W.of_hideAll _ q)
    (PySem.W.funFrames_hide I.stack fun env he b hb => List.mem_filterMap.mpr ⟨env, he, hb⟩) M fun h2 t fl _ _ up => ?_
  exact ⟨ea, cls, .ref t, H1, _, rfl, fly_out I F fl up, fl, hE⟩
theorem passes_fn : PassesS (CXF P w) (cxOf (CXF P w) P w K mg base N qual scope f cd A outer s H E) (fun _ => E) := by
  intro pins σ H1 s1 e s' I h
  obtain ⟨ea, cls, a0, H', B, rfl, F, fl, hE⟩ := h
  show wpAny (model P w) _ (leaving (envOfC qual scope s.heap.objs.size f cd) (.ref ea)) _ _ s'
  refine wpAny_leaves_onW I.ok.frames rfl fl fun h2 fl' up => ?_
  exact ⟨ea, cls, a0, H', B, rfl, fly_out I F fl' up, fl', hE⟩
end

theorem Fun.okX {P : Program} {w : World} {K : PySem.W.Frag} {mg : Str → Option Value} {base : Heap} {x qual : Str} {st : Stmt} {f : Addr} {fd : FuncData} {N ps : List Str} {k : Nat} {sp : Sp} (F : Fun K x qual st f fd) (S : FnScope N ps (defScope st)) (len : ∀ vs H Q E, sp vs H Q E → vs.length = ps.length)
    (hbody : ∀ (cdv : Value) (A : Around) (outer : List Env) (s : Shared) (H : Hp) (vs : List V) (Q : VK) (E : XK), Room k (A.deeper (envOfC qual (defScope st) s.heap.objs.size f cdv)) → sp vs H Q E →
      ∃ t, PSs (cxOf (CXF P w) P w K mg base N qual (defScope st) f cdv A outer s H E) (defBody st) t ∧ t { nx := fun _ H' => Q .non H', rt := Q } (start N vs) H) : FnOk P w K mg base (CXF P w) (k + 1) f fd ps sp := by
  obtain ⟨oc, od, kV, doc, pm, an, cdv, ct, osl, rfl, lk, hcd⟩ := F.ex
  exact fn_of lk hcd S len fun A outer s H vs Q E hr hsp => hbody cdv A outer s H vs Q E hr hsp
theorem FnOk.cxf {P : Program} {w : World} {K : PySem.W.Frag} {mg : Str → Option Value} {base : Heap} {k : Nat} {f : Addr} {fd : FuncData} {ps : List Str} {sp : Sp} (F : FnOk P w K mg base CX0 k f fd ps sp) (CX : CXT) : FnOk P w K mg base CX k f fd ps sp :=
  ⟨F.len, fun A outer s H args us vs Q E hr he hb hv hs => codeAny_mono (F.run A outer s H args us vs Q E hr he hb hv hs) fun r s' q => by
    cases r with
    | error e => exact False.elim q
    | ok fl => cases fl <;> exact q⟩

def tCallS (sp : Sp) (dvs : List V) (E : St → XK) (t : TA) : TE := fun σ H Q => t σ H fun vs H1 => sp (vs ++ dvs) H1 Q (E σ)
section
variable {X : Cx} {CX : CXT} {k : Nat} {f C : Addr} {fd : FuncData} {ps : List Str} {sp : Sp} {dvs : List V} {ds : List Value} {E : St → XK} {x m : Str} {p pos apos : Pos} {e o : Expr} {es : List Expr} {ta : TE} {t : TA}
theorem run_fnS {pins : List (Addr × Obj)} {σ : St} {H : Hp} {s : Shared} {Q : VK} {us : List Value} {vs : List V} (F : FnOk X.prog X.w X.K X.mg X.base CX k f fd ps sp) (hr : Room k X.A) (hb : Binds X.K fd ps ds) (hd : Vals dvs ds) (hx : PassesS CX X E)
    (I : Inv X pins σ H s) (r : Vals vs us) (h : sp (vs ++ dvs) H Q (E σ)) : wpAny (model X.prog X.w) X.A (call (.ref f) us) (EP X pins σ Q) X.xe s := by
  have r2 : Vals (vs ++ dvs) (us ++ ds) := r.append hd
  have hl : (us ++ ds).length = ps.length := by rw [← r2.length]; exact F.len _ _ _ _ h
  refine wpAny_call (codeAny_mono (F.run X.A X.stack s H ⟨us, []⟩ (us ++ ds) (vs ++ dvs) Q (E σ) hr I.env0 (hb s us I.kIn hl) r2 h) fun r s' hq => ?_)
  cases r with
  | error e => exact hx pins σ H s e s' I hq
  | ok fl =>
    cases fl with
    | ret u => exact I.after hq
    | next => exact False.elim hq
    | brk => exact False.elim hq
    | cont => exact False.elim hq
theorem pe_callS (F : FnOk X.prog X.w X.K X.mg X.base CX k f fd ps sp) (hr : Room k X.A) (hg : Gl X x) (hm : X.mg x = some (.ref f)) (hk : PySem.W.keepIn X.K (.ref f) = true) (hb : Binds X.K fd ps ds) (hd : Vals dvs ds) (hx : PassesS CX X E)
    (ha : PA X (e :: es) t) (hdb : (x == ("__debug__" : Str)) = false := by decide) (he : starEach (e :: es) X.env = (false, eval e X.env) :: starEach es X.env := by rfl) (hpl : (backTo pos (starEach es X.env)).any (·.1) = false := by rfl) :
    PE X (.Call (.Name x p) (e :: es) [] pos) (tCallS sp dvs E t) := by
  intro pins s σ H Q I h
  refine wpAny_Call_Name_kw (ld_glob I hg hm ?_ hdb)
  refine PySem.W.callWith_K (h₀ := X.base) I.ok.mod.kin hk (thn (ha pos pins s σ H _ I h) fun us s1 ⟨vs, H1, I1, r, q⟩ => ⟨I1.kIn, ?_⟩) he hpl
  exact run_fnS F hr hb hd hx I1 r q
end

abbrev veB : List Value := [.type "ValueError", .type "Exception", .type "BaseException", .type "object"]
theorem excObj_of {K : PySem.W.Frag} {h : Heap} {C : Addr} {bmB : List Value} {newId : String} (X : K.In h) (q : PySem.W.excIn K C bmB newId = true) :
    ∃ bm N nm q bs hdct sn sub ab col dd k0 k1 k2 k3 k5 mN, h.get? C = some (excClassObj nm q C N bs bm hdct sn sub ab col dd k0 k1 k2 k3 k5 newId) ∧ h.Ns N mN ∧ mN "__init__" = none ∧ OwnTail h bmB bm := by
  unfold PySem.W.excIn at q
  split at q
  · rename_i dd cd sl ho
    split at q
    · rename_i C' bm k0 k1 k2 k3 n k5 hm hs
      simp only [Bool.and_eq_true, beq_iff_eq, Bool.not_eq_true'] at q
      obtain ⟨⟨⟨⟨⟨rfl, rfl⟩, hdel⟩, ht⟩, hok⟩, hni⟩ := q
      obtain ⟨nm, bs, mro, ns, qn, hd, sn, sub, ab, col, del⟩ := cd
      dsimp only at hm hdel hok hni
      subst hm hdel
      have hsl : sl = #[k0, k1, k2, k3, some (.builtin n), k5] := by
        obtain ⟨l⟩ := sl
        simp only at hs
        rw [hs]
      subst hsl
      exact ⟨bm, ns, nm, qn, bs, hd, sn, sub, ab, col, dd, k0, k1, k2, k3, k5, _, X _ _ ho, .of_isNs (PySem.W.isNs_of_in X hok), PySem.W.nsMap_none_of_in X hok hni, PySem.W.tail_of_in X ht⟩
    · cases q
  · cases q
def tRaise (E : St → XK) (C : Addr) (t : TA) : TS := fun _ σ H => t σ H fun vs H1 => vs.length ≤ sizeLine ∧ E σ (.ref C) none H1
theorem ps_raise {X : Cx} {E : St → XK} {C : Addr} {x : Str} {np cpos pos : Pos} {e : Expr} {es : List Expr} {t : TA} (hc : X.calm = true) (hR : Raises X E) (q : PySem.W.excIn X.K C veB "ValueError.__new__" = true) (hg : Gl X x) (hm : X.mg x = some (.ref C)) (ha : PA X (e :: es) t)
    (hdb : (x == ("__debug__" : Str)) = false := by decide) (he : starEach (e :: es) X.env = (false, eval e X.env) :: starEach es X.env := by rfl) (hpl : (backTo cpos (starEach es X.env)).any (·.1) = false := by rfl) :
    PS X (.Raise (some (.Call (.Name x np) (e :: es) [] cpos)) none pos) (tRaise E C t) := by
  intro pins s σ H D I h
  obtain ⟨tl, N, nm, q, bs, hdct, sn, sub, ab, col, dd, k0, k1, k2, k3, k5, mN, hC, hN, hni, T⟩ := excObj_of I.ok.mod.kin q
  refine wpAny_Raise_call_subT (C := C) (nm := nm) (q := q) (N := N) (bs := bs) (bm := tl) (hdct := hdct) (sn := sn) (sub := sub) (ab := ab) (col := col) (dd := dd) (k0 := k0) (k1 := k1) (k2 := k2) (k3 := k3) (k5 := k5)
    PySem.F.excBase_ValueError (mN := mN) (T.hasType PySem.F.excBase_ValueError.hasBase) (I.ok.hd hc) (by rw [he]; show (false || (backTo cpos (starEach es X.env)).any (·.1)) = false; rw [hpl]; rfl) hni (ld_glob I hg hm ⟨rfl, ?_⟩ hdb)
  have h1 := ha cpos pins s σ H _ I h
  rw [he] at h1 ⊢
  refine Calls.evalArgs_plain (thn h1 fun us s2 ⟨vs, H2, I2, r, z, hE⟩ => ⟨rfl, by rw [← r.length]; exact z, I2.bk _ _ hC, hN.keeps I2.bk, T.keeps I2.bk, fun h' ea M => ?_⟩)
  exact hR pins σ H2 s2 ea (.ref C) us h' I2 M hE
end L2


set_option Elab.async false
set_option linter.all false
set_option maxRecDepth 100000
set_option maxHeartbeats 4000000
namespace L2
open PySem PySem.Spec PyProof.Rows
section
variable {X : Cx} {pins : List (Addr × Obj)} {σ : St} {H : Hp} {s : Shared}
end

section
variable {X : Cx} {pins pins' pn : List (Addr × Obj)} {σ : St} {H : Hp} {s : Shared} {E : Value → Shared → Prop} {ea : Addr}
end

def IsExc (ea C : Addr) : Heap → Prop := fun h => ∃ o vs, h.get? ea = some o ∧ o.cls = .ref C ∧ o.data = .fields vs
end L2


set_option Elab.async false
set_option linter.all false
set_option maxRecDepth 100000
set_option maxHeartbeats 4000000
namespace L2
open PySem PySem.Spec PyProof.Rows
section
variable {X : Cx}
end

structure ExcLook (K : PySem.W.Frag) (C : Addr) : Prop where
  ga : PySem.W.findIn K (.ref C) "__getattribute__" = some (some (.builtin "BaseException.__getattribute__"))
  gt : PySem.W.findIn K (.ref C) "__getattr__" = some none
  cl : PySem.W.findIn K (.ref C) "__class__" = some (some (.builtin "object.__class__"))
  sp : PySem.W.specialIn K (.builtin "object.__class__") "__get__" = some (some (.builtin "getset_descriptor.__get__"))
  tk : PySem.W.takesIn K (.builtin "object.__class__") = some true
  ob : PySem.W.mroIn K C (.type "object") = some true
  be : PySem.W.mroIn K C (.type "BaseException") = some true
section
open PySem.W PySem.Calls Builtin Builtin.ObjectAttr Builtin.Getset_descriptor
variable {prog : Program} {w : World} {A : Around} {E : Value → Shared → Prop} {s : Shared} {K : Frag} {x C : Addr}
theorem looks_find_data {M : Model} {h : Heap} {self g a : Value} {name : Str} (X : K.In h) (ha : findIn K (.ref C) name = some (some a)) (hg : specialIn K a "__get__" = some (some g)) (ht : takesIn K a = some true) :
    Looks M h (Builtin.ObjectAttr.find self (.ref C) name) (Found.bind g a) := by
  have L1 := looks_findIn (M := M) X ha
  have L2 : Looks M h (getOf (some a)) (some g) := looks_specialIn X hg
  have L3 := looks_takesIn (M := M) X ht
  exact L1.andThen (L2.andThen ((show Looks M h (dataDescriptor? (some a) (some g)) (some (g, a)) from L3.andThen .now).andThen (Looks.tag .now)))
theorem class_get_exc {tp : Value} {R : Result → Shared → Prop} (X : K.In s.heap) (I : IsExc x C s.heap) (hm : mroIn K C (.type "object") = some true)
    (h : R (.ok (.ret (.ref C))) s) : codeAny (model prog w) A (.call (.builtin "getset_descriptor.__get__") ⟨[.builtin "object.__class__", .ref x, tp], []⟩) R s := by
  obtain ⟨hh, g, dr, t, os⟩ := s
  obtain ⟨o, vs, hx, hc, hd⟩ := I
  have L0 : Looks (model prog w) hh (typeOf (.ref x)) (.ref C) := hc ▸ (Looks.ld hx).andThen .now
  have L1 := looks_mroIn (M := model prog w) X hm
  refine codeAny_call_builtin KF.slot_gs.plain KF.entry_gs (KF.slot_gs.check _ _ _ _ _ _ _ _ KF.type_class (KF.args_gs _ _ _) ?_)
  unfold Builtin.«getset_descriptor.__get__» descrGet
  rw [dga_obj]
  refine wpAny_bind (wpAny_pure ?_)
  unfold descrGetter descrCheckInstance descrNameAndClass isInstance
  simp only [KF.owner_class]
  repeat lk
  refine ⟨Code.quiet_builtin _ (by decide +kernel), codeAny_builtin KF.entry_class ?_⟩
  unfold Builtin.«object.__class__» shownTypeOf
  repeat lk
  exact h
theorem getattr_exc {Q : Option Value → Shared → Prop} (X : K.In s.heap) (I : IsExc x C s.heap) (L : ExcLook K C) (h : Q (some (.ref C)) { s with toks := s.toks + 1 }) : wpAny (model prog w) A (getAttr? (.ref x) "__class__") Q E s := by
  obtain ⟨hh, g, d, t, os⟩ := s
  obtain ⟨o, vs, hx, hc, hd⟩ := id I
  have L0 : Looks (model prog w) hh (typeOf (.ref x)) (.ref C) := hc ▸ (Looks.ld hx).andThen .now
  have L1 := looks_findIn (M := model prog w) X L.ga
  have L2 := looks_findIn (M := model prog w) X L.gt
  have L3 := looks_mroIn (M := model prog w) X L.be
  have LF : Looks (model prog w) hh (Builtin.ObjectAttr.find (.ref x) (.ref C) "__class__") (Found.bind (.builtin "getset_descriptor.__get__") (.builtin "object.__class__")) := looks_find_data X L.cl L.sp L.tk
  unfold getAttr? getAttrBy? getAttrBy
  refine wpAny_bind (wpAny_mkText (wpAny_bind (wpAny_attempt (wpAny_holding (wpAny_bind (L0.at (wpAny_bind (L1.at ?_))))))))
  show wpAny _ _ (if (onTheHeap (Value.ref C) && (Value.builtin "BaseException.__getattribute__" == Value.builtin "object.__getattribute__")) = true then _ else getAttrByItsOwn _ _ _ _ _ _) _ _ _
  rw [if_neg (by
    have z : (Value.builtin "BaseException.__getattribute__" == Value.builtin "object.__getattribute__") = false := by decide +kernel
    rw [z, Bool.and_false]
    decide)]
  unfold getAttrByItsOwn hookBefore
  refine wpAny_bind ?_
  show wpAny _ _ (typeLookup (.ref C) "__getattr__") _ _ _
  refine L2.at ?_
  refine wpAny_bind (wpAny_attempt (wpAny_holding ?_))
  unfold callGetattribute
  rw [if_neg (by decide +kernel)]
  unfold boundAndCalled
  rw [PySem.F.excAttr_ValueError.ga.bind (.ref x)]
  refine wpAny_bind (wpAny_pure ?_)
  refine wpAny_call (codeAny_call_builtin PySem.F.excAttr_ValueError.ga.plain PySem.F.entry_bexc_ga ?_)
  have hk : builtinKind "BaseException.__getattribute__" = some .slot := by decide +kernel
  have hsplit : splitId "BaseException.__getattribute__" = some ("BaseException", "__getattribute__") := by decide +kernel
  have ha := PySem.F.args_bexc_ga (.ref x) (.str "__class__" t)
  show wpAny _ _ (checkBuiltinCall "BaseException.__getattribute__" ⟨[.ref x, .str "__class__" t], []⟩) _ _ _
  simp only [checkBuiltinCall, hk, hsplit]
  refine wpAny_bind ?_
  unfold isInstance
  repeat lk
  refine wpAny_run (class_get_exc (s := ⟨hh, g, d, t + 1, os⟩) X I L.ob ?_)
  exact wpAny_pure (wpAny_pure (wpAny_pure (wpAny_pure h)))
end
end L2


set_option Elab.async false
set_option linter.all false
set_option maxRecDepth 100000
set_option maxHeartbeats 4000000
namespace L2
open PySem PySem.Spec PyProof.Rows

def clStep (env : Env) (x : Str × NameKind) (cs : List (Str × Addr)) : Sem (ForInStep (List (Str × Addr))) :=
  if (x.2 == NameKind.free) = true then (cellOf env x.1 >>= fun a => pure (ForInStep.yield ((x.1, a) :: cs))) else pure (ForInStep.yield cs)
theorem closureFor_go {env : Env} : ∀ (names : List (Str × NameKind)) (cs : List (Str × Addr)), (∀ x ∈ names, x.2 = .free → ∃ c, env.cells.lookup x.1 = some c) →
    ∃ cl : List (Str × Addr), (forIn names cs (clStep env) : Sem (List (Str × Addr))) = pure cl ∧
      (∀ y c, cl.lookup y = some c → cs.lookup y = some c ∨ env.cells.lookup y = some c) ∧ (∀ y, (∃ c, cs.lookup y = some c) → ∃ c, cl.lookup y = some c) ∧ ∀ x ∈ names, x.2 = .free → ∃ c, cl.lookup x.1 = some c
  | [], cs, _ => ⟨cs, rfl, fun _ _ h => .inl h, fun _ h => h, fun _ h => nomatch h⟩
  | (n, k) :: r, cs, h => by
    by_cases hk : k = .free
    · subst hk
      obtain ⟨c, hc⟩ := h (n, .free) List.mem_cons_self rfl
      obtain ⟨cl, e, a, b, d⟩ := closureFor_go r ((n, c) :: cs) fun x hx => h x (List.mem_cons_of_mem _ hx)
      refine ⟨cl, ?_, fun y c' hy => ?_, fun y ⟨c', hy⟩ => ?_, fun x hx hf => ?_⟩
      · rw [List.forIn_cons]
        have e1 : cellOf env n = pure c := by unfold cellOf; rw [hc]
        have e2 : clStep env (n, .free) cs = pure (ForInStep.yield ((n, c) :: cs)) := by
          show (cellOf env n >>= fun a => pure (ForInStep.yield ((n, a) :: cs))) = _
          rw [e1]
          rfl
        rw [e2]
        exact e
      · rcases a y c' hy with z | z
        · rw [List.lookup_cons] at z
          split at z
          · rename_i q
            have : y = n := by simpa using q
            subst this
            cases z
            exact .inr hc
          · exact .inl z
        · exact .inr z
      · refine b y ?_
        rw [List.lookup_cons]
        split
        · exact ⟨_, rfl⟩
        · exact ⟨c', hy⟩
      · rcases List.mem_cons.mp hx with z | z
        · subst z
          refine b n ⟨c, ?_⟩
          rw [List.lookup_cons]; simp
        · exact d x z hf
    · have hb : (k == NameKind.free) = false := by simpa using hk
      obtain ⟨cl, e, a, b, d⟩ := closureFor_go r cs fun x hx => h x (List.mem_cons_of_mem _ hx)
      refine ⟨cl, ?_, a, b, fun x hx hf => ?_⟩
      · rw [List.forIn_cons]
        have e2 : clStep env (n, k) cs = pure (ForInStep.yield cs) := by
          unfold clStep
          rw [if_neg (by rw [hb]; decide)]
        rw [e2]
        exact e
      · rcases List.mem_cons.mp hx with z | z
        · subst z; exact absurd hf hk
        · exact d x z hf
theorem closureFor_of {scope : Scope} {env : Env} (h : ∀ x ∈ scope.names, x.2 = .free → ∃ c, env.cells.lookup x.1 = some c) :
    ∃ cl, closureFor scope env = pure cl ∧ (∀ y c, cl.lookup y = some c → env.cells.lookup y = some c) ∧ ∀ x ∈ scope.names, x.2 = .free → ∃ c, cl.lookup x.1 = some c := by
  obtain ⟨cl, e, a, _, d⟩ := closureFor_go scope.names [] h
  refine ⟨cl, ?_, fun y c hy => ?_, d⟩
  · have e0 : closureFor scope env = (forIn scope.names [] (clStep env) >>= fun cs => pure cs) := by
      unfold closureFor
      congr 1
    rw [e0, e]
    rfl
  · rcases a y c hy with z | z
    · cases z
    · exact z

section
variable {prog : Program} {w : World} {A : Around} {R : Result → Shared → Prop} {s : Shared}
theorem compLoop_gen {elt target iter : Expr} {ifs : List Expr} {scope : Scope} {pos : Pos} {it acc : Value} {env : Env} (I : Nat → Shared → Prop)
    (turn : ∀ n s, I n s → wpAny (model prog w) A (pyNext it) (fun r s₁ => match r with
      | none => R (.ok .next) s₁
      | some v => wpAny (model prog w) A (letOwnedTupleGo target it v) (fun _ s₁' => wpAny (model prog w) A (assign target env v) (fun _ s₂ =>
          wpAny (model prog w) A (forIn ifs true fun c r => if r = true then do let ok ← isTrue c env (eval c env); pure (ForInStep.yield ok) else pure (ForInStep.yield r)) (fun ok s₃ =>
            if ok = true then wpAny (model prog w) A (eval elt env) (fun x s₄ =>
              wpAny (model prog w) A (call (.builtin "list.append") [acc, x]) (fun _ s₅ => ∃ m, m < n ∧ I m s₅) (notedBy (model prog w) A env fun e s' => R (.error e) s') s₄) (notedBy (model prog w) A env fun e s' => R (.error e) s') s₃
            else ∃ m, m < n ∧ I m s₃) (notedBy (model prog w) A env fun e s' => R (.error e) s') s₂) (notedBy (model prog w) A env fun e s' => R (.error e) s') s₁') (notedBy (model prog w) A env fun e s' => R (.error e) s') s₁) (notedBy (model prog w) A env fun e s' => R (.error e) s') s)
    (n : Nat) (h : I n s) :
    codeAny (model prog w) A (.compLoop (.ListComp elt [⟨target, iter, ifs, 0⟩] scope pos) 0 it acc env) R s := by
  refine codeAny_loop rfl I (fun n s hI => ?_) n h
  show wpAny _ A ((compTurn (.ListComp elt [⟨target, iter, ifs, 0⟩] scope pos) 0 it acc env).onRaise (fun x => do noteFrame x env; theTreesLotGoes x)) _ _ s
  refine wpAny_noted ?_
  rw [compTurn_list]
  refine wpAny_bind (wpAny_standAt (wpAny_bind (wpAny_mono (turn n s hI) (fun r s₁ h₁ => ?_) fun _ _ h' => h')))
  cases r with
  | none => exact wpAny_pure h₁
  | some v =>
    refine wpAny_bind (wpAny_mono h₁ (fun _ s₁' h₁' => ?_) fun _ _ h' => h')
    refine wpAny_bind (wpAny_mono h₁' (fun _ s₂ h₂ => wpAny_bind (wpAny_mono h₂ (fun ok s₃ h₃ => ?_) fun _ _ h' => h')) fun _ _ h' => h')
    cases ok with
    | false => exact wpAny_pure ⟨rfl, h₃⟩
    | true =>
      exact wpAny_bind (wpAny_bind (wpAny_mono h₃ (fun x s₄ h₄ => wpAny_bind (wpAny_mono h₄ (fun _ s₅ h₅ => wpAny_pure (wpAny_pure ⟨rfl, h₅⟩)) fun _ _ h' => h')) fun _ _ h' => h'))
end

def PIf (X : Cx) (ifs : List Expr) (t : TT) : Prop :=
  ∀ (pins : List (Addr × Obj)) (s : Shared) (σ : St) (H : Hp) (Q : Bool → Hp → Prop), Inv X pins σ H s → t σ H Q →
    wpAny (model X.prog X.w) X.A (forIn ifs true fun c r => if r = true then do let ok ← isTrue c X.env (eval c X.env); pure (ForInStep.yield ok) else pure (ForInStep.yield r)) (TP X pins σ Q) X.xe s
def tYes : TT := fun _ H Q => Q true H
theorem pif_nil {X : Cx} : PIf X [] tYes := fun _ _ _ H _ I h => wpAny_tests_nil ⟨H, I, h⟩
theorem pif_one {X : Cx} {c : Expr} {t : TT} (h : PT X c t) : PIf X [c] t := fun pins s σ H Q I hq => wpAny_tests_one (h pins s σ H Q I hq)

def cxComp (X : Cx) (N : List Str) (scope : Scope) (cl : List (Str × Addr)) (C : Addr) (s : Shared) (H : Hp) (fp : List Addr) (pins : List (Addr × Obj)) : Cx :=
  { X with N := N, s₀ := s, H₀ := H, env := compEnvC scope cl C X.env, outer := X.stack, ex := fp, fn := fun _ => false, pn := X.pn ++ pins, xe := fun _ _ => False }

theorem relabel_lookup {env : Env} : ∀ {names : List (Str × NameKind)} {x : Str} {k : NameKind}, (∀ y ∈ names, y.2 ≠ .cell) → (k = .cell ∨ k = .free) →
    (names.map fun (n, k) => if (k == NameKind.free && env.scope.kind == .function && env.kindOf n == some .cell) then (n, NameKind.cell) else (n, k)).lookup x = some k → names.lookup x = some .free
  | [], _, _, _, _, h => by cases h
  | (n, k') :: r, x, k, hc, hk, h => by
    have ih := @relabel_lookup env r x k (fun y hy => hc y (List.mem_cons_of_mem _ hy)) hk
    have h' : List.lookup x ((if (k' == NameKind.free && env.scope.kind == .function && env.kindOf n == some .cell) = true then (n, NameKind.cell) else (n, k')) :: (r.map fun (n, k) => if (k == NameKind.free && env.scope.kind == .function && env.kindOf n == some .cell) then (n, NameKind.cell) else (n, k))) = some k := h
    rw [List.lookup_cons]
    by_cases hx : (x == n) = true
    · rw [hx]
      by_cases c : (k' == NameKind.free && env.scope.kind == .function && env.kindOf n == some .cell) = true
      · simp only [Bool.and_eq_true, beq_iff_eq] at c
        rw [c.1.1]
      · rw [if_neg c, List.lookup_cons, hx] at h'
        have e : k' = k := Option.some.inj h'
        subst e
        rcases hk with z | z
        · exact absurd z (hc (n, k') List.mem_cons_self)
        · rw [z]
    · have hx' : (x == n) = false := by simpa using hx
      rw [hx']
      refine ih ?_
      by_cases c : (k' == NameKind.free && env.scope.kind == .function && env.kindOf n == some .cell) = true
      · rw [if_pos c, List.lookup_cons, hx'] at h'
        exact h'
      · rw [if_neg c, List.lookup_cons, hx'] at h'
        exact h'
theorem relabel_free {env : Env} : ∀ {names : List (Str × NameKind)} {x : Str}, names.lookup x = some .free →
    (names.map fun (n, k) => if (k == NameKind.free && env.scope.kind == .function && env.kindOf n == some .cell) then (n, NameKind.cell) else (n, k)).lookup x = some .cell ∨
    (names.map fun (n, k) => if (k == NameKind.free && env.scope.kind == .function && env.kindOf n == some .cell) then (n, NameKind.cell) else (n, k)).lookup x = some .free
  | [], _, h => by cases h
  | (n, k') :: r, x, h => by
    have ih := @relabel_free env r x
    show List.lookup x ((if (k' == NameKind.free && env.scope.kind == .function && env.kindOf n == some .cell) = true then (n, NameKind.cell) else (n, k')) :: _) = _ ∨ List.lookup x ((if (k' == NameKind.free && env.scope.kind == .function && env.kindOf n == some .cell) = true then (n, NameKind.cell) else (n, k')) :: _) = _
    rw [List.lookup_cons] at h
    by_cases hx : (x == n) = true
    · rw [hx] at h
      have e : k' = .free := Option.some.inj h
      subst e
      by_cases c : (NameKind.free == NameKind.free && env.scope.kind == .function && env.kindOf n == some .cell) = true
      · rw [if_pos c]; simp only [List.lookup_cons, hx]; exact .inl trivial
      · rw [if_neg c]; simp only [List.lookup_cons, hx]; exact .inr trivial
    · have hx' : (x == n) = false := by simpa using hx
      rw [hx'] at h
      by_cases c : (k' == NameKind.free && env.scope.kind == .function && env.kindOf n == some .cell) = true
      · rw [if_pos c]; simp only [List.lookup_cons, hx']; exact ih h
      · rw [if_neg c]; simp only [List.lookup_cons, hx']; exact ih h

def tComp (wi : TI) (σ0 : St → St) (g : TG) (ti : TT) (te : TE) : TE := fun σ H Q => wi σ H fun J H1 => ∀ D, H1 D = none → ∃ W : Nat → Nat → St → Hp → Prop, (∃ m, W 0 m (σ0 σ) (upd H1 D (.lst []))) ∧ ∀ i m σ' H', W i m σ' H' →
  (J.stop i H' ∧ Q (.ref D) H') ∨ (J.go i H' ∧ ∀ x H2, J.yld i H' x H2 → g x σ' H2 fun σ2 H3 => ti σ2 H3 fun b H4 => if b = true then te σ2 H4 fun y H5 => ∃ ys, H5 D = some (.lst ys) ∧ ys.length < sizeLine ∧ ∃ m', m' < m ∧ W (i + 1) m' σ2 (upd H5 D (.lst (ys ++ [y])))
    else ∃ m', m' < m ∧ W (i + 1) m' σ2 H4)

structure Frees (X : Cx) (scope : Scope) (N : List Str) (σ0 : St → St) : Prop where
  len : ∀ σ, (σ0 σ).length = N.length
  at_ : ∀ (σ : St) (i : Nat) (y : Str) (v : V), N[i]? = some y → (σ0 σ)[i]? = some (some v) → scope.names.lookup y = some .free ∧ ∃ j : Nat, X.N[j]? = some y ∧ σ[j]? = some (some v)

theorem pe_comp {X : Cx} {elt tg iter : Expr} {ifs : List Expr} {scope : Scope} {pos : Pos} {N : List Str} {σ0 : St → St} {wi : TI} {g : TG} {ti : TT} {te : TE}
    (hc : X.calm = true) (hF : Frees X scope N σ0) (hvis : ∀ y ∈ scope.names, y.2 = .free → X.env.kindOf y.1 = some .cell ∨ X.env.kindOf y.1 = some .free)
    (hcell : ∀ y ∈ scope.names, y.2 ≠ .cell) (hkind : scope.kind = .function) (hnames : ∀ y ∈ scope.names, y.2 = .local → scope.names.lookup y.1 = some .local) (hfl : ∀ y, scope.names.lookup y = some .free → (y, NameKind.free) ∈ scope.names)
    (hi : PI X tg iter wi) (hg : ∀ cl C s H fp pins, PG (cxComp X N scope cl C s H fp pins) tg g) (ht : ∀ cl C s H fp pins, PIf (cxComp X N scope cl C s H fp pins) ifs ti) (he : ∀ cl C s H fp pins, PE (cxComp X N scope cl C s H fp pins) elt te)
    (hs : ∀ x, foldedSetIterable iter X.env x = pure x := by intro _; rfl) : PE X (.ListComp elt [⟨tg, iter, ifs, 0⟩] scope pos) (tComp wi σ0 g ti te) := by
  intro pins s σ H Q I h
  obtain ⟨cl, hclos, hsub, hhas⟩ := closureFor_of (scope := scope) (env := X.env) fun y hy hf => I.ok.has y.1 (hvis y hy hf)
  rw [eval_ListComp]
  refine wpAny_comprehension_free (use := none) rfl hs hclos hkind hnames (thn (hi pins s σ H _ I h) fun v s1 h1 => thn h1 fun itv s2 h2 => ?_)
  obtain ⟨it, fp, tn, J, H2, e, I2, T, st2, f2, q2⟩ := h2
  subst e
  refine wpAny_newObj_type (wpAny_newFunctionEnv hcell (by intro y hy; simp at hy) (fun h₁ hns₁ hsb₁ => ?_) hkind)
  dsimp only at hns₁ hsb₁ ⊢
  generalize hH2 : s2.heap.push { cls := .type "list", dict := none, data := .seq ([] : List Value).toArray } = G2 at hns₁ hsb₁ ⊢
  have hC : G2.objs.size = s2.heap.objs.size + 1 := by rw [← hH2, Heap.size_push]
  have hDC : s2.heap.objs.size ≠ G2.objs.size := by rw [hC]; exact Nat.ne_of_lt (Nat.lt_succ_self _)
  have below : ∀ b, b < s2.heap.objs.size → b ≠ G2.objs.size ∧ b ≠ s2.heap.objs.size := fun b hb => ⟨by rw [hC]; exact Nat.ne_of_lt (Nat.lt_succ_of_lt hb), Nat.ne_of_lt hb⟩
  have old : ∀ b o, s2.heap.get? b = some o → h₁.get? b = some o := fun b o e => hsb₁.extBut b o (below b (Heap.lt_size e)).1 (Heap.get?_push_of_some _ (hH2 ▸ Heap.get?_push_of_some _ e))
  have hD : h₁.get? s2.heap.objs.size = some { cls := .type "list", dict := none, data := .seq ([] : List Value).toArray } := hsb₁.extBut _ _ hDC (Heap.get?_push_of_some _ (hH2 ▸ Heap.get?_push_size _ rfl))
  have nD : H2 s2.heap.objs.size = none := I2.hok.fresh (Nat.le_refl _)
  have nC : H2 G2.objs.size = none := I2.hok.fresh (by rw [hC]; exact Nat.le_succ _)
  have fpl : ∀ b ∈ fp, b < s2.heap.objs.size := fun b hb => by
    obtain ⟨o, e, _⟩ := T.obj _ _ st2 b hb
    exact Heap.lt_size e
  have cells : ∀ y c, cl.lookup y = some c → ∃ v, s2.heap.IsCell c v := fun y c e => I2.cell y c (hsub y c e)
  have cellLt : ∀ y c, cl.lookup y = some c → c < s2.heap.objs.size := fun y c e => by
    obtain ⟨v, o, ho, _⟩ := cells y c e
    exact Heap.lt_size ho
  have stkNo : ∀ b, b ≠ X.env.locals → b ∉ X.fs → b ∉ frs X.stack := fun b n1 n2 z => by
    rcases List.mem_cons.mp (I2.stkSub b z) with r | r
    · exact n1 r
    · exact n2 r
  obtain ⟨W, ⟨m0, w0⟩, turn⟩ := q2 s2.heap.objs.size nD
  have ok : (cxComp X N scope cl G2.objs.size s2 H2 fp pins).Ok := by
    refine ⟨I2.ok.mod, hkind, I2.ok.glob, I2.ok.blt, (by show s2.heap.objs.size ≤ G2.objs.size; rw [hC]; exact Nat.le_succ _), fun x y c a b => I2.ok.inj x y c (hsub x c a) (hsub y c b), fun x hx => ?_, fun x c a => (nomatch a), I2.ok.hd, I2.ok.frames, .inl rfl, fun b hb => ⟨(below b (fpl b hb)).1, fun x c e => ?_⟩, I2.bs, Nat.le_trans I2.ok.bsz I2.sz, fun b o e hb => ?_, fun b hb => stkNo b (f2 b hb).2.1 (f2 b hb).2.2.1, I2.stack, I2.stkFree⟩
    · have hx' : scope.names.lookup x = some .free := by
        rcases hx with z | z
        · exact relabel_lookup hcell (.inl rfl) z
        · exact relabel_lookup hcell (.inr rfl) z
      exact hhas _ (hfl x hx') rfl
    · exact (f2 b hb).2.2.2.2.1 x c (hsub x c e)
    · rcases (f2 b hb).2.2.2.1 with z | z
      · exact I2.ok.noex b o e z
      · exact absurd (Nat.lt_of_lt_of_le (Heap.lt_size e) (Nat.le_trans I2.ok.bsz z)) (Nat.lt_irrefl _)
  have inv0 : Inv (cxComp X N scope cl G2.objs.size s2 H2 fp pins) [] (σ0 σ) (upd H2 s2.heap.objs.size (.lst [])) { s2 with heap := h₁, toks := s2.toks + ([] : List (Str × Value)).length } := by
    refine ⟨ok, rfl, I2.bare, Un.laid old (Nat.le_refl _) nD, ⟨_, hns₁, fun i y v e1 e2 e3 => ?_⟩, fun y c e => ?_, ?_, fun y c e => ?_, fun p hp => ?_, ?_, hF.len σ⟩
    · obtain ⟨hfr, j, hj, hv⟩ := hF.at_ σ i y v e1 e2
      have hk := hvis _ (hfl y hfr) rfl
      obtain ⟨m, hn, hl⟩ := I2.loc
      obtain ⟨u, r, l⟩ := hl j y v hj hv (.inr (hk.elim .inl .inr))
      refine ⟨u, r, .inr ⟨relabel_free hfr, ?_⟩⟩
      rcases l with ⟨k1, _⟩ | ⟨_, c, hc, hcell⟩
      · rcases hk with z | z
        · rw [k1] at z; cases z
        · rw [k1] at z; cases z
      · obtain ⟨c', hc'⟩ := hhas _ (hfl y hfr) rfl
        have : c' = c := Option.some.inj ((hsub _ _ hc').symm.trans hc)
        subst this
        refine ⟨c', hc', ?_⟩
        obtain ⟨o, ho, hd⟩ := hcell
        exact ⟨o, old _ _ ho, hd⟩
    · obtain ⟨v, o, ho, hd⟩ := cells y c e
      exact ⟨v, o, old _ _ ho, hd⟩
    · show upd H2 s2.heap.objs.size (.lst []) G2.objs.size = none
      rw [upd_ne (Ne.symm hDC)]; exact nC
    · show upd H2 s2.heap.objs.size (.lst []) c = none
      rw [upd_ne (below c (cellLt y c e)).2]; exact I2.freeC y c (hsub y c e)
    · have hp' : p ∈ X.pn ++ pins := by simpa [cxComp] using hp
      obtain ⟨e, n, ne, nf, d⟩ := I2.pin p hp'
      refine ⟨old _ _ e, ?_, (below _ (Heap.lt_size e)).1, stkNo _ ne nf, d⟩
      rw [upd_ne (below _ (Heap.lt_size e)).2]; exact n
    · exact I2.hok.laid old (Nat.le_refl _) ⟨Nat.zero_le _, [], 0, .nil, hD⟩
  have tn0 : tn 0 h₁ := T.keep 0 _ _ st2 fun b _ o e => old b o e
  have stat : ∀ {H' : Hp}, (∀ b ∈ fp, H' b = none) → ∀ b ∈ fp, FpOk (cxComp X N scope cl G2.objs.size s2 H2 fp pins) [] H' b := fun hn b hb =>
    ⟨hn b hb, (below b (fpl b hb)).1, stkNo b (f2 b hb).2.1 (f2 b hb).2.2.1, .inl hb, fun x c e => (f2 b hb).2.2.2.2.1 x c (hsub x c e), fun p hp => (f2 b hb).2.2.2.2.2 p (by simpa [cxComp] using hp)⟩
  have loop : codeAny (model X.prog X.w) X.A (.compLoop (.ListComp elt [⟨tg, iter, ifs, 0⟩] scope pos) 0 (.ref it) (.ref s2.heap.objs.size) (compEnvC scope cl G2.objs.size X.env))
      (compPost (model X.prog X.w) X.A X.xe none (EP X pins σ Q) (.ref s2.heap.objs.size) G2.objs.size) { s2 with heap := h₁, toks := s2.toks + ([] : List (Str × Value)).length } := by
    refine compLoop_gen (fun n s' => ∃ i σ' H', Inv (cxComp X N scope cl G2.objs.size s2 H2 fp pins) [] σ' H' s' ∧ tn i s'.heap ∧ (∀ b ∈ fp, H' b = none) ∧ W i n σ' H') ?_ m0
      ⟨0, σ0 σ, _, inv0, tn0, fun b hb => by rw [upd_ne (below b (fpl b hb)).2]; exact (f2 b hb).1, w0⟩
    rintro n s3 ⟨i, σ3, H3, I3, st3, fr3, w3⟩
    have no : ∀ {α : Type} {t : Sem α} {Q' : α → Shared → Prop} {E' : Value → Shared → Prop} {s' : Shared}, wpAny (model X.prog X.w) X.A t Q' (fun _ _ => False) s' → wpAny (model X.prog X.w) X.A t Q' E' s' := fun h => wpAny_mono h (fun _ _ z => z) fun _ _ z => False.elim z
    rcases turn i n σ3 H3 w3 with ⟨stop, qn⟩ | ⟨go, step⟩
    · refine no (thn (T.done (cxComp X N scope cl G2.objs.size s2 H2 fp pins) rfl rfl rfl hc i [] s3 σ3 H3 _ I3 (stat fr3) st3 stop) fun r s4 ⟨hr, I4⟩ => ?_)
      subst hr
      obtain ⟨m, hn, _⟩ := I4.loc
      refine ⟨m, hn, fun h' hs' => ?_⟩
      have u : Un (frs X.stack) fp H2 H3 s2.heap h' := by
        have b0 : Un (frs X.stack) fp H2 H3 s2.heap s4.heap := I4.base
        have neC : ∀ b o, s2.heap.get? b = some o → b ≠ G2.objs.size := fun b o e => (below b (Heap.lt_size e)).1
        exact ⟨fun b o e n hb hx => (hs'.2 b (neC b o e)).trans (b0.keep b o e n hb hx), fun b o e n hb hx => by
          obtain ⟨sl, z⟩ := b0.slot b o e n hb hx
          exact ⟨sl, (hs'.2 b (neC b o e)).trans z⟩, b0.free, fun b o e hx => by
          obtain ⟨o', z⟩ := b0.there b o e hx
          exact ⟨o', (hs'.2 b (neC b o e)).trans z⟩, b0.tups, b0.frzs, b0.tbls⟩
      have hfreeC : H3 G2.objs.size = none := I4.free
      have hk : HOk X.prog X.w H3 h' := fun b ob e => by
        refine (I4.hok b ob e).stay (fun c w' hc q => (hs'.2 c ?_).trans q) (fun _ q => q) fun _ _ q => q
        rintro rfl
        rcases hc with z | z
        · rw [← z, hfreeC] at e; cases e
        · rw [hfreeC] at z; cases z
      have hos : s4.os = s2.os := I4.os
      have J4 : Inv X pins σ H3 { s4 with heap := h' } := I2.call' (s' := { s4 with heap := h' }) (ch := fp) hos u hk I4.bare fun b hb => ⟨(f2 b hb).2.2.2.1, (f2 b hb).2.1, (f2 b hb).2.2.2.2.1, (f2 b hb).2.2.2.2.2⟩
      exact ⟨.ref s2.heap.objs.size, H3, J4, rfl, qn⟩
    · refine no (thn (T.item (cxComp X N scope cl G2.objs.size s2 H2 fp pins) rfl rfl rfl hc i [] s3 σ3 H3 _ I3 (stat fr3) st3 go) fun r s4 ⟨u, hr, h4⟩ => ?_)
      subst hr
      refine no (thn h4 fun _ s5 ⟨x, H5, I5, r5, y5, st5, fr5⟩ => ?_)
      have I5' := I5.pinned (stat fr5) (T.obj _ _ st5)
      have again : ∀ {s7 : Shared} {σ7 : St} {H7 : Hp} {m' : Nat}, Inv (cxComp X N scope cl G2.objs.size s2 H2 fp pins) ([] ++ pinsAt fp s5.heap) σ7 H7 s7 → m' < n → W (i + 1) m' σ7 H7 → ∃ m, m < n ∧ ∃ i σ' H', Inv (cxComp X N scope cl G2.objs.size s2 H2 fp pins) [] σ' H' s7 ∧ tn i s7.heap ∧ (∀ b ∈ fp, H' b = none) ∧ W i m σ' H' := fun {s7 σ7 H7 m'} I7 hm w7 => by
        refine ⟨m', hm, i + 1, σ7, H7, I7.unpinned, T.keep _ _ _ st5 fun b hb o e => (I7.pin (b, o) (List.mem_append_right _ (List.mem_append_right _ (mem_pinsAt hb e)))).1, fun b hb => ?_, w7⟩
        obtain ⟨o, e, d⟩ := T.obj _ _ st5 b hb
        exact (I7.pin (b, o) (List.mem_append_right _ (List.mem_append_right _ (mem_pinsAt hb e)))).2.1
      refine no (thn (hg cl G2.objs.size s2 H2 fp pins _ s5 σ3 H5 x u _ I5' r5 (step x H5 y5)) fun _ s6 ⟨σ6, H6, I6, q6⟩ => ?_)
      refine no (thn (ht cl G2.objs.size s2 H2 fp pins _ s6 σ6 H6 _ I6 q6) fun b s7 ⟨H7, I7, q7⟩ => ?_)
      cases b with
      | false =>
        rw [if_neg (by decide)] at q7
        obtain ⟨m', hm, w7⟩ := q7
        exact again I7 hm w7
      | true =>
        rw [if_pos rfl] at q7
        refine no (thn (he cl G2.objs.size s2 H2 fp pins _ s7 σ6 H7 _ I7 q7) fun yv s8 ⟨y, H8, I8, r8, ys, hys, hz, m', hm, w8⟩ => ?_)
        refine no (thn (mt_append (X := cxComp X N scope cl G2.objs.size s2 H2 fp pins) _ s8 σ6 H8 (.ref s2.heap.objs.size) [y] _ [yv] (fun _ H9 => H9 = upd H8 s2.heap.objs.size (.lst (ys ++ [y]))) I8 rfl (.cons r8 .nil) ⟨_, ys, y, rfl, rfl, hys, hz, rfl⟩) fun _ s9 ⟨_, H9, I9, _, q9⟩ => ?_)
        subst q9
        exact again I9 hm w8
  exact codeAny_compStart_list loop (T.self X.A 0 _ _ _ tn0 loop)
end L2


set_option Elab.async false
set_option linter.all false
set_option maxRecDepth 100000
set_option maxHeartbeats 4000000
namespace L2
open PySem PySem.Spec PyProof.Rows

def cOf : V → Value
  | .ty n => .type n
  | .ref a => .ref a
  | _ => .none
def isCls : V → Bool
  | .ty _ => true
  | .ref _ => true
  | _ => false
theorem cOf_rel {c : V} {u : Value} (r : RelV c u) (h : isCls c = true) : u = cOf c := by
  cases c <;> first | exact r | exact absurd h Bool.false_ne_true
inductive TyX (K : PySem.W.Frag) (H : Hp) : V → Value → Prop where
  | of {x : V} {t : Value} (h : TyOf K H x t) : TyX K H x t
  | exc {a C : Addr} (e : H a = some (.ext (IsExc a C))) (L : ExcLook K C) (hc : (PySem.W.clsIn K C).isSome = true) : TyX K H (.ref a) (.ref C)
theorem kitx_exc {K : PySem.W.Frag} {x C : Addr} (L : ExcLook K C) (hc : (PySem.W.clsIn K C).isSome = true) : PySem.W.KitX K (.ref x) (.ref C) (IsExc x C) where
  ty := fun _ _ _ I => by
    obtain ⟨o, vs, hx, hcl, hd⟩ := I
    exact hcl ▸ (PySem.W.Looks.ld hx).andThen .now
  it := fun _ _ X _ => by
    obtain ⟨cd, hcD⟩ := Option.isSome_iff_exists.mp hc
    unfold PySem.W.clsIn at hcD
    split at hcD
    · rename_i c' d' cd' sl' ho
      intro A' Q' E' s' k q
      unfold isType loadHead
      exact wpAny_bind (wpAny_loadPart (k _ _ (X _ _ ho)) (wpAny_pure q))
    · cases hcD
  ne := fun h tp dd its n sl X htp => by
    obtain ⟨cd, hcD⟩ := Option.isSome_iff_exists.mp hc
    refine Bool.eq_false_iff.mpr fun q => ?_
    have e : C = tp := Value.ref.inj (beq_iff_eq.mp q)
    subst e
    unfold PySem.W.clsIn at hcD
    split at hcD
    · rename_i c' d' cd' sl' ho
      have z := (X _ _ ho).symm.trans htp
      cases z
    · cases hcD
  ca := fun X I k => getattr_exc X I L k
section
variable {X : Cx}
theorem call_isi {K : PySem.W.Frag} (hK : X.K = K) : CallR X (.builtin "isinstance") (fun xs H Q => ∃ x c t b, xs = [x, c] ∧ isCls c = true ∧ TyX K H x t ∧ PySem.W.kitOne K t (cOf c) = some b ∧ Q (.bl b) H) := by
  subst hK
  intro pins s σ H xs us Q I r h
  obtain ⟨x, c, t, b, rfl, hc, ty, e, q⟩ := h
  obtain ⟨u, v, rfl, rx, rc⟩ := Vals.two r
  rw [cOf_rel rc hc]
  have fin : ∀ tk, EP X pins σ Q (.bool b) { s with toks := tk } := fun tk => ⟨.bl b, H, I.tok tk, rfl, q⟩
  cases ty with
  | of h => exact isinst_ok I rx h e fin
  | @exc a C ea L hcl =>
    cases (show u = Value.ref a from rx)
    have z : ObjOk X.prog X.w H s.heap a (.ext (IsExc a C)) := I.hok a _ ea
    exact PySem.W.kia_one (kitx_exc L hcl) I.kIn z.1 e (fun z => nomatch z) fin
theorem op_fdivB : OpR X (binaryOp .FloorDiv) (rI (fun _ j => j ≠ 0 ∧ j.natAbs.log2 < 9000) fun i j => .int (i.fdiv j)) := opI fun _ _ _ _ _ _ _ hc q => floordiv_int hc.1 q (.inl (PyProof.noPylong_of_log2 hc.2))
end
structure FunD (K : PySem.W.Frag) (x qual : Str) (st : Stmt) (dV : Value) (f : Addr) (fd : FuncData) : Prop where
  ex : ∃ (oc : Value) (od : Option Addr) (kV doc pm : Value) (an : Option Addr) (cdv ct : Value) (osl : Array (Option Value)),
    fd = PySem.W.fnOf x qual (defArgs st) (defBody st) (defScope st) dV kV doc pm an cdv ct ∧ K.lookup f = some ⟨oc, od, .func fd, osl⟩ ∧ PySem.W.codeIn K cdv qual = true
  kp : PySem.W.keepIn K (.ref f) = true
theorem FunD.okX {P : Program} {w : World} {K : PySem.W.Frag} {mg : Str → Option Value} {base : Heap} {x qual : Str} {st : Stmt} {dV : Value} {f : Addr} {fd : FuncData} {N ps : List Str} {k : Nat} {sp : Sp} (F : FunD K x qual st dV f fd) (S : FnScope N ps (defScope st)) (len : ∀ vs H Q E, sp vs H Q E → vs.length = ps.length)
    (hbody : ∀ (cdv : Value) (A : Around) (outer : List Env) (s : Shared) (H : Hp) (vs : List V) (Q : VK) (E : XK), Room k (A.deeper (envOfC qual (defScope st) s.heap.objs.size f cdv)) → sp vs H Q E →
      ∃ t, PSs (cxOf (CXF P w) P w K mg base N qual (defScope st) f cdv A outer s H E) (defBody st) t ∧ t { nx := fun _ H' => Q .non H', rt := Q } (start N vs) H) : FnOk P w K mg base (CXF P w) (k + 1) f fd ps sp := by
  obtain ⟨oc, od, kV, doc, pm, an, cdv, ct, osl, rfl, lk, hcd⟩ := F.ex
  exact fn_of lk hcd S len fun A outer s H vs Q E hr hsp => hbody cdv A outer s H vs Q E hr hsp
theorem funD_mk {K : PySem.W.Frag} {x qual : Str} {st : Stmt} {dV : Value} {f : Addr} {oc : Value} {od an : Option Addr} {osl : Array (Option Value)} {kV doc pm cdv ct : Value} (l : K.lookup f = some ⟨oc, od, .func (PySem.W.fnOf x qual (defArgs st) (defBody st) (defScope st) dV kV doc pm an cdv ct), osl⟩)
    (c : PySem.W.codeIn K cdv qual = true) (k : PySem.W.keepIn K (.ref f) = true) : FunD K x qual st dV f (PySem.W.fnOf x qual (defArgs st) (defBody st) (defScope st) dV kV doc pm an cdv ct) := ⟨⟨oc, od, kV, doc, pm, an, cdv, ct, osl, rfl, l, c⟩, k⟩
theorem boolsAre_of : ∀ {bs : List Bool} {us : List Value}, Vals (bs.map V.bl) us → LSm.BoolsAre us bs
  | [], _, .nil => .nil
  | b :: bs, _ :: us, .cons r t => by
    cases (show _ = Value.bool b from r)
    exact .cons b (boolsAre_of t)
theorem call_all {X : Cx} (hc : X.calm = true) : CallR X (.builtin "all") (fun xs H Q => ∃ (l : Addr) (bs : List Bool), xs = [.ref l] ∧ SqL X.K H l (bs.map V.bl) ∧ Q (.bl (bs.all id)) H) := by
  intro pins s σ H xs us Q I r h
  obtain ⟨l, bs, rfl, hq, q⟩ := h
  obtain ⟨u, rfl, rx⟩ := r.one
  cases (show u = Value.ref l from rx)
  obtain ⟨its, rv, pl, hz⟩ := I.list hq
  have hl := pl.isList
  have hb := boolsAre_of rv
  have hlt : l < s.heap.objs.size := by obtain ⟨_, e, _⟩ := hl; exact Heap.lt_size e
  refine call_all_walk (wpAny_pyIter_list hl ?_)
  refine ⟨s.heap.objs.size, [s.heap.objs.size, l], [s.heap.objs.size], its.toArray.size, _, _, fun i => (bs[i]?).getD true, rfl, Walks.list (A := X.A.in1) (I.ok.hd hc) _ l (Nat.ne_of_lt hlt) its.toArray,
    ⟨⟨_, Heap.get?_push_size _ rfl, rfl, rfl⟩, hl.push _⟩, fun i v s' Q' E' hP hQ => ?_, fun h' tk hk => ?_⟩
  · obtain ⟨b, e, rfl⟩ := hb.get i v (by simpa using hP)
    simp only [e, Option.getD_some] at hQ
    exact wpAny_truthy_bool hQ
  · have e : ((List.range its.toArray.size).all fun i => (bs[i]?).getD true) = bs.all id := by
      rw [List.size_toArray, hb.length]; exact LSm.range_all bs
    rw [e]
    exact ⟨.bl _, H, I.kept (LSm.kept_iter hk), rfl, q⟩
def eqVs : List V → List V → Bool
  | [], [] => true
  | x :: xs, y :: ys => eqV x y && eqVs xs ys
  | _, _ => false
theorem eqVs_range {xs ys : List V} : ((List.range (min xs.length ys.length)).all (fun j => eqV (xs.getD j .non) (ys.getD j .non)) && xs.length == ys.length) = eqVs xs ys := by
  induction xs generalizing ys with
  | nil =>
    cases ys with
    | nil => rfl
    | cons y ys => simp [eqVs]
  | cons x xs ih =>
    cases ys with
    | nil => simp [eqVs]
    | cons y ys =>
      have h := @ih ys
      rw [eqVs, ← h, List.length_cons, List.length_cons, Nat.succ_min_succ, List.range_succ_eq_map, List.all_cons, List.all_map]
      have e1 : (xs.length + 1 == ys.length + 1) = (xs.length == ys.length) := by simp
      rw [e1]
      have e2 : (List.range (min xs.length ys.length)).all ((fun j => eqV ((x :: xs).getD j .non) ((y :: ys).getD j .non)) ∘ Nat.succ) = (List.range (min xs.length ys.length)).all (fun j => eqV (xs.getD j .non) (ys.getD j .non)) := rfl
      rw [e2, Bool.and_assoc]
      rfl
theorem bt_isinstance : bootBuiltins "isinstance" = some (.builtin "isinstance") := by decide +kernel
theorem bt_len : bootBuiltins "len" = some (.builtin "len") := by decide +kernel
theorem bt_abs : bootBuiltins "abs" = some (.builtin "abs") := by decide +kernel
theorem bt_all : bootBuiltins "all" = some (.builtin "all") := by decide +kernel
theorem bt_int : bootBuiltins "int" = some (.type "int") := by decide +kernel
theorem bt_tuple : bootBuiltins "tuple" = some (.type "tuple") := by decide +kernel
theorem bt_str : bootBuiltins "str" = some (.type "str") := by decide +kernel
theorem bt_list : bootBuiltins "list" = some (.type "list") := by decide +kernel
theorem iteY {c : Bool} {A B : Prop} (h : c = true) (a : A) : if c = true then A else B := by rw [if_pos h]; exact a
theorem iteN {c : Bool} {A B : Prop} (h : c = false) (b : B) : if c = true then A else B := by rw [if_neg (by rw [h]; decide)]; exact b
theorem dI {a b : Int} : decide (V.int a = V.int b) = decide (a = b) := by
  by_cases g : a = b
  · rw [g, decide_eq_true rfl, decide_eq_true rfl]
  · rw [decide_eq_false g, decide_eq_false (fun z => g (by injection z))]
theorem eqY {a b : Int} (h : a = b) : decide (V.int a = V.int b) = true := by rw [dI]; exact decide_eq_true h
theorem eqN {a b : Int} (h : ¬ a = b) : decide (V.int a = V.int b) = false := by rw [dI]; exact decide_eq_false h
theorem neY {a b : Int} (h : ¬ a = b) : (!decide (V.int a = V.int b)) = true := by rw [eqN h]; rfl
theorem neN {a b : Int} (h : a = b) : (!decide (V.int a = V.int b)) = false := by rw [eqY h]; rfl
end L2


set_option Elab.async false
set_option linter.all false
set_option maxRecDepth 100000
set_option maxHeartbeats 4000000
namespace L2
open PySem PySem.Spec PyProof.Rows
section
variable {X : Cx} {e v v₁ v₂ : Expr} {te : TE} {pos : Pos} {es : List Expr}
def tFmI (te : TE) : TE := fun σ H Q => te σ H fun x H1 => ∃ i : Int, x = .int i ∧ i.natAbs.log2 < 1920 ∧ Q (.str (toString i)) H1
theorem pe_fmI (he : PE X e te) : PE X (.FormattedValue e (-1) none pos) (tFmI te) := by
  intro pins s σ H Q I h
  refine FormattedValue_plain (thn (he pins s σ H _ I h) fun u s1 ⟨x, H1, I1, r1, i, ex, hl, q⟩ => ?_)
  subst ex
  obtain ⟨t, rfl⟩ := r1
  exact formatField_int_small hl ⟨.str (toString i), H1, I1.tok _, ⟨_, rfl⟩, q⟩
def tFmS (te : TE) : TE := fun σ H Q => te σ H fun x H1 => ∃ z : Str, x = .str z ∧ z.length ≤ sizeLine ∧ Q (.str z) H1
theorem pe_fmS (he : PE X e te) : PE X (.FormattedValue e (-1) none pos) (tFmS te) := by
  intro pins s σ H Q I h
  refine FormattedValue_plain (thn (he pins s σ H _ I h) fun u s1 ⟨x, H1, I1, r1, z, ex, hl, q⟩ => ?_)
  subst ex
  obtain ⟨t, rfl⟩ := r1
  exact formatField_str (fun t' tk => ⟨.str z, H1, I1.tok _, ⟨_, rfl⟩, q⟩) hl
theorem pe_join1 (h : PE X v te) : PE X (.JoinedStr [v] pos) te := fun pins s σ H Q I hw => JoinedStr_one (h pins s σ H Q I hw)
abbrev TJ := St → Hp → Str → VK → Prop
def PJ (X : Cx) (es : List Expr) (t : TJ) : Prop :=
  ∀ (pins : List (Addr × Obj)) (s : Shared) (σ : St) (H : Hp) (out : Str) (Q : VK), Inv X pins σ H s → out.length ≤ sizeLine → t σ H out Q → wpAny (model X.prog X.w) X.A (joinParts out (evalEach es X.env)) (EP X pins σ Q) X.xe s
def jNil : TJ := fun _ H out Q => Q (.str out) H
def jCons (te : TE) (t : TJ) : TJ := fun σ H out Q => te σ H fun x H1 => ∃ y : Str, x = .str y ∧ (out ++ y).length ≤ sizeLine ∧ t σ H1 (out ++ y) Q
theorem pj_nil : PJ X [] jNil := fun _ s σ H out Q I hz h => joinParts_nilE (joinParts_nil ⟨.str out, H, I.tok _, ⟨_, rfl⟩, h⟩ hz)
theorem pj_cons {t : TJ} (he : PE X e te) (ht : PJ X es t) : PJ X (e :: es) (jCons te t) := by
  intro pins s σ H out Q I hz h
  refine joinParts_consE (joinParts_cons (thn (he pins s σ H _ I h) fun u s1 ⟨x, H1, I1, r1, y, ex, hl, q⟩ => ?_))
  subst ex
  obtain ⟨t', rfl⟩ := r1
  exact ⟨hl, ht pins s1 σ H1 _ Q I1 hl q⟩
theorem pe_join {t : TJ} (h : PJ X (v₁ :: v₂ :: es) t) : PE X (.JoinedStr (v₁ :: v₂ :: es) pos) (fun σ H Q => t σ H Str.empty Q) := fun pins s σ H Q I hw => JoinedStr_many (h pins s σ H Str.empty Q I (Nat.zero_le _) hw)
def rSlS : V → Option Int → Option Int → Hp → VK → Prop := fun x lo hi H Q => ∃ z : Str, x = .str z ∧ z.length ≤ sizeLine ∧ Q (.str (Txt.slice z lo hi)) H
theorem isPart_val {v : Value} {o : Option Int} (h : IsPart v o) : ∃ p : Option (Int × Tok), v = partValue p ∧ p.map (·.1) = o := by
  cases h with
  | none => exact ⟨none, rfl, rfl⟩
  | int i t => exact ⟨some (i, t), rfl, rfl⟩
theorem sl_str : SlR X rSlS := by
  intro pins s σ H x v vl vu lo hi sl Q I rx hs pl pu h
  obtain ⟨z, rfl, hz, q⟩ := h
  obtain ⟨t, rfl⟩ := rx
  obtain ⟨l, rfl, rfl⟩ := isPart_val pl
  obtain ⟨u, rfl, rfl⟩ := isPart_val pu
  refine ⟨"str", _, slot_str_getitem.lookup, typeIs_str _ _ _, wpAny_getItem_str_slice (l := l) (u := u) (st := none) hs rfl (post_val_or_str ⟨Nat.le_trans (Txt.slice_le z _ _) hz, fun t' k => ?_⟩)⟩
  exact ⟨.str _, H, I.tok _, ⟨_, rfl⟩, q⟩
end
theorem app_list (a y : Str) : (a ++ y).cps.toList = a.cps.toList ++ y.cps.toList := by
  show (a.cps ++ y.cps).toList = _
  simp
theorem app_len (a y : Str) : (a ++ y).length = a.length + y.length := by
  show (a.cps ++ y.cps).size = a.cps.size + y.cps.size
  simp
end L2


set_option Elab.async false
set_option linter.all false
set_option maxRecDepth 100000
set_option maxHeartbeats 4000000
namespace L2
open PySem PySem.Spec PyProof.Rows
section
variable {P : Program} {w : World} {K : PySem.W.Frag} {mg : Str → Option Value} {base : Heap}
end
section
variable {X : Cx} {k : Nat} {f : Addr} {fd : FuncData} {ps : List Str} {sp : Sp} {dvs : List V} {ds : List Value} {x : Str} {p pos : Pos} {e : Expr} {es : List Expr} {t : TA}
end
theorem FnOk.to0 {P : Program} {w : World} {K : PySem.W.Frag} {mg : Str → Option Value} {base : Heap} {k : Nat} {f : Addr} {fd : FuncData} {ps : List Str} {sp : Sp} (F : FnOk P w K mg base (CXF P w) k f fd ps sp) : FnOk P w K mg base CX0 k f fd ps (fun vs H Q _ => sp vs H Q E0) :=
  ⟨fun vs H Q E h => F.len vs H Q E0 h, fun A outer s H args us vs Q E hr he hb hv hs => codeAny_mono (F.run A outer s H args us vs Q E0 hr he hb hv hs) fun r s' q => by
    cases r with
    | error e => obtain ⟨_, _, _, _, _, _, _, _, z⟩ := q; exact False.elim z
    | ok fl => cases fl <;> exact q⟩
theorem strsAre_of : ∀ {ys : List Str} {us : List Value}, Vals (ys.map V.str) us → StrsAre us ys
  | [], _, .nil => .nil
  | y :: ys, _ :: us, .cons r t => by
    obtain ⟨k, rfl⟩ := r
    exact .cons _ _ (strsAre_of t)
def rJoin (K : PySem.W.Frag) : V → List V → Hp → VK → Prop := fun x vs H Q => ∃ z l ys, x = .str z ∧ vs = [.ref l] ∧ SqL K H l (ys.map V.str) ∧ (ys.map (·.length)).sum + ys.length * z.length ≤ 16777216 ∧ Q (.str (Txt.join z ys)) H
theorem mt_join {X : Cx} : MtR X "str.join" (rJoin X.K) := by
  intro pins s σ H x xs v us Q I rx rs h
  obtain ⟨z, l, ys, rfl, rfl, hq, hz, q⟩ := h
  obtain ⟨t, rfl⟩ := rx
  obtain ⟨u, rfl, ru⟩ := rs.one
  cases (show u = Value.ref l from ru)
  obtain ⟨its, rv, pl, _⟩ := I.list hq
  exact join_list pl.isList (strsAre_of rv) hz fun t' k => ⟨.str _, H, I.tok _, ⟨_, rfl⟩, q⟩
theorem eqVs_len {xs ys : List V} (h : xs.length = ys.length) : (List.range xs.length).all (fun j => eqV (xs.getD j .non) (ys.getD j .non)) = eqVs xs ys := by
  have e := @eqVs_range xs ys
  rw [← h, Nat.min_self, beq_self_eq_true, Bool.and_true] at e
  exact e
theorem eqVs_ne {xs ys : List V} (h : xs.length ≠ ys.length) : eqVs xs ys = false := by
  have e := @eqVs_range xs ys
  rw [← e]
  have : (xs.length == ys.length) = false := by simpa using h
  rw [this, Bool.and_false]
theorem eqAt_items {X : Cx} {A : Around} {s : Shared} {xs ys : List V} {its its2 : List Value} (r : Vals xs its) (r2 : Vals ys its2) (fx : xs.all flatV = true) (fy : ys.all flatV = true) (j : Nat) (h1 : j < its.toArray.size) (h2 : j < its2.toArray.size) :
    SeqAt.EqAt A s its.toArray[j] its2.toArray[j] (eqV (xs.getD j .non) (ys.getD j .non)) := by
  have j1 : j < xs.length := by rw [r.length]; simpa using h1
  have j2 : j < ys.length := by rw [r2.length]; simpa using h2
  obtain ⟨u1, e1, q1⟩ := r.get (i := j) (x := xs[j]) (by simp [j1])
  obtain ⟨u2, e2, q2⟩ := r2.get (i := j) (x := ys[j]) (by simp [j2])
  have z1 : its.toArray[j] = u1 := by
    have := e1
    rw [List.getElem?_eq_getElem (by simpa using h1)] at this
    simpa using Option.some.inj this
  have z2 : its2.toArray[j] = u2 := by
    have := e2
    rw [List.getElem?_eq_getElem (by simpa using h2)] at this
    simpa using Option.some.inj this
  have g1 : xs.getD j .non = xs[j] := by simp [List.getD, j1]
  have g2 : ys.getD j .non = ys[j] := by simp [List.getD, j2]
  rw [z1, z2, g1, g2]
  exact eqAt_V q1 q2 (List.all_eq_true.mp fx _ (List.getElem_mem j1)) (List.all_eq_true.mp fy _ (List.getElem_mem j2))
def rEqLF (K : PySem.W.Frag) (neg : Bool) : R2 := fun x y H Q => ∃ p q xs ys, x = .ref p ∧ y = .ref q ∧ SqL K H p xs ∧ SqL K H q ys ∧ xs.all flatV = true ∧ ys.all flatV = true ∧ Q (.bl (if neg then !eqVs xs ys else eqVs xs ys)) H
theorem op_eqLF {X : Cx} {K : PySem.W.Frag} (hK : X.K = K) (hu : X.A.units < cLine) : OpR X (compareOp .Eq) (rEqLF K false) := by
  subst hK
  intro pins s σ H x y v u Q I rx ry h
  obtain ⟨p, q, xs, ys, rfl, rfl, hx, hy, fx, fy, hq⟩ := h
  cases rx
  cases ry
  obtain ⟨its, r, pl, hz⟩ := I.list hx
  obtain ⟨its2, r2, pl2, hz2⟩ := I.list hy
  by_cases hl : xs.length = ys.length
  · refine SeqAt.eq_listAt (e := fun j => eqV (xs.getD j .non) (ys.getD j .non)) pl.isList pl2.isList (by rw [List.size_toArray, List.size_toArray, ← r.length, ← r2.length]; exact hl) hu (fun j h1 h2 => eqAt_items (X := X) r r2 fx fy j h1 h2) ?_
    rw [List.size_toArray, ← r.length, eqVs_len hl]
    exact ⟨.bl _, H, I, rfl, hq⟩
  · refine SeqAt.eq_list_lengthsAt pl.isList pl2.isList (by rw [List.size_toArray, List.size_toArray, ← r.length, ← r2.length]; simpa using hl) hu ?_
    rw [eqVs_ne hl] at hq
    exact ⟨.bl _, H, I, rfl, hq⟩
theorem op_neLF {X : Cx} {K : PySem.W.Frag} (hK : X.K = K) (hu : X.A.units < cLine) : OpR X (compareOp .NotEq) (rEqLF K true) := by
  subst hK
  intro pins s σ H x y v u Q I rx ry h
  obtain ⟨p, q, xs, ys, rfl, rfl, hx, hy, fx, fy, hq⟩ := h
  cases rx
  cases ry
  obtain ⟨its, r, pl, hz⟩ := I.list hx
  obtain ⟨its2, r2, pl2, hz2⟩ := I.list hy
  by_cases hl : xs.length = ys.length
  · refine SeqAt.RcNeAt.lists (e := fun j => eqV (xs.getD j .non) (ys.getD j .non)) pl.isList pl2.isList (by rw [List.size_toArray, List.size_toArray, ← r.length, ← r2.length]; exact hl) hu (fun j h1 h2 => eqAt_items (X := X) r r2 fx fy j h1 h2) _ _ _ _ ?_
    rw [List.size_toArray, ← r.length, eqVs_len hl]
    exact ⟨.bl _, H, I, rfl, hq⟩
  · refine SeqAt.RcNeAt.lists_lengths pl.isList pl2.isList (by rw [List.size_toArray, List.size_toArray, ← r.length, ← r2.length]; simpa using hl) hu _ _ _ _ ?_
    rw [eqVs_ne hl] at hq
    exact ⟨.bl _, H, I, rfl, hq⟩
end L2


set_option Elab.async false
set_option linter.all false
set_option maxRecDepth 100000
set_option maxHeartbeats 4000000
namespace L2
open PySem PySem.Spec PyProof.Rows PySem.W Builtin.Str
def Few (i : Int) : Prop := i.natAbs.log2 < 1048576
theorem few_of {ns : List Int} (h : WData.layableAll [WData.list (ns.map WData.int)] = true) : ∀ i ∈ ns, Few i := by
  intro i hi
  have h1 := layableW_arg h _ (List.mem_singleton.mpr rfl)
  have h2 := layableW_item h1 (WData.int i) (List.mem_map.mpr ⟨i, hi, rfl⟩)
  have h3 := (layableW_iff.mp h2).2.2
  unfold Few
  have e : (WData.int i).weight = if i == 0 then 0 else i.natAbs.log2 + 1 := by simp only [WData.weight]
  rw [e] at h3
  by_cases z : i = 0
  · subst z
    decide
  · have : (i == 0) = false := by simpa using z
    rw [this] at h3
    simp only [Bool.false_eq_true, if_false] at h3
    have e2 : (2 : Nat) ^ 20 = 1048576 := by decide
    omega
theorem walk_ofB {l : PySem.W.OpenLaw} {n k : Nat} {q : Program} {loose : List Str} {XP : (Str → Option Value) → Heap → Prop} {YP : World → Heap → Prop} {d : DefRec} {K : Params → PySem.W.Frag} {CX : World → CXT} {sp : World → Sp} {x : Str}
    (hn : l.most = some n) (hn2 : n ≤ sizeLine) (hdf : d.params.defaults = []) (hr : Room k callerA)
    (hY : ∀ (w : World) (h : Heap), YP w h → (K w.params).In h)
    (F : ∀ (w : World) (mg : Str → Option Value) (fa : Addr) (h : Heap), (K w.params).In h → h.Ns mainGlobals mg → mg d.name = some (.ref fa) →
      ∃ fd : FuncData, (∀ (s : Shared) (u : Value), BindsTo s fd ⟨[u], []⟩ [(x, u)]) ∧
        ∀ base : Heap, (K w.params).In base → base.Ns mainGlobals mg → FnOk l.prog w (K w.params) mg base (CX w) k fa fd [x] (sp w))
    (hsp : ∀ (w : World) (H : Hp) (a : Addr) (ns : List Int), ns.length ≤ n → (∀ i ∈ ns, Few i) → Only H → SqL (K w.params) H a (ns.map V.int) → sp w [.ref a] H (fun v _ => v = .bl true) fun _ _ _ => False)
    (hCX : ∀ (w : World) (H : Hp) (s : Shared) (e : Value) (s' : Shared), CX w [] H s (fun _ _ _ => False) e s' → False) :
    PySem.W.WalkO q loose XP YP l.row.toRowW d [] (fun f vs => PySem.call f vs) := by
  intro w s₀ s₁ mg mb G Y fa o pm cd doc dV kV ho hd hcd hD hmg hg args vals as hpre hlay hrd hwl hlo
  obtain rfl : dV = .none := Dflts.none hD hdf
  obtain rfl : kV = .none := Dflts.noKw hD
  obtain ⟨a, vs, ns, rfl, rfl, hobj, hints, hlen⟩ := Att.script_of hn hpre hwl
  have few := few_of hlay
  have KX := hY w _ Y
  obtain ⟨fd, hb, hF⟩ := F w mg fa _ KX G.T.g hmg
  refine enter_call (codeAny_mono (law_call KX G.T.g G.T.b G.T.builtins G.T.nolimit hg hobj hints (Nat.le_trans hlen hn2) hr hF hb (fun H hO hS => hsp w H a ns hlen few hO hS) fun H e s' => hCX w H s₁ e s') fun r s' hq => ?_)
  obtain ⟨rfl, h2, h3, h4⟩ := hq
  exact ⟨.inl ⟨.bool true, .bool true, [], rfl, fun _ => rfl, .bool true, Att.post_true l _, fun _ => ⟨List.Pairwise.nil, fun _ hm => (nomatch hm)⟩⟩, h2, h3, h4⟩
theorem Few.lt {i : Int} (h : Few i) : i.natAbs < 2 ^ 1048576 := by
  rcases Nat.eq_zero_or_pos i.natAbs with e | p
  · rw [e]; exact Nat.two_pow_pos _
  · exact (Nat.log2_lt (Nat.ne_of_gt p)).mp h
theorem log_lt {n m : Nat} (h : n < 2 ^ m) (h0 : 0 < m) : n.log2 < m := by
  rcases Nat.eq_zero_or_pos n with e | p
  · subst e
    rw [show Nat.log2 0 = 0 by decide]
    exact h0
  · exact (Nat.log2_lt (Nat.ne_of_gt p)).mpr h
theorem bits_le {i : Int} {m : Nat} (h : i.natAbs < 2 ^ m) (h0 : 0 < m) : Builtin.Int.intBits i ≤ m := by
  unfold Builtin.Int.intBits
  split
  · exact Nat.zero_le _
  · have := log_lt h h0
    omega
def CMulF (i j : Int) : Prop := ∃ k : Nat, k ≤ 1048580 ∧ i.natAbs < 2 ^ k ∧ j.natAbs < 2 ^ k
theorem op_mulF {X : Cx} : OpR X (binaryOp .Mult) (rI CMulF fun i j => .int (i * j)) := opI fun i j _ _ _ _ _ hc q => mul_int q (by
  obtain ⟨k, hk, h1, h2⟩ := hc
  have a := bits_le (m := k + 1) (Nat.lt_of_lt_of_le h1 (Nat.pow_le_pow_right (by decide) (Nat.le_succ k))) (Nat.succ_pos k)
  have b := bits_le (m := k + 1) (Nat.lt_of_lt_of_le h2 (Nat.pow_le_pow_right (by decide) (Nat.le_succ k))) (Nat.succ_pos k)
  unfold IntMulOk
  have z : Builtin.Int.intTooBig (Builtin.Int.intBits i + Builtin.Int.intBits j) = false := by
    unfold Builtin.Int.intTooBig
    refine decide_eq_false ?_
    have e : ((bitsLine : Nat) : Int) = 134217728 := by decide +kernel
    rw [e]
    omega
  rw [z, Bool.and_false]
  exact Bool.false_ne_true)
theorem few_add {i c : Int} (h : Few i) (hc : c.natAbs < 10000000) : ∃ k : Nat, k ≤ 1048580 ∧ (i + c).natAbs < 2 ^ k := by
  have a := h.lt
  have b := Int.natAbs_add_le i c
  obtain ⟨m, hm⟩ : ∃ m : Nat, m = 1048576 := ⟨_, rfl⟩
  rw [← hm] at a
  have hc : c.natAbs < 2 ^ m := Nat.lt_of_lt_of_le hc (Nat.le_trans (show 10000000 ≤ 2 ^ 24 by decide) (Nat.pow_le_pow_right (by decide) (by omega)))
  have e : 2 ^ m + 2 ^ m = 2 ^ (m + 1) := by rw [Nat.pow_succ, Nat.mul_two]
  exact ⟨m + 1, by omega, by omega⟩
structure Tx (n : Nat) (x : Str) : Prop where
  len : x.length ≤ n
  cp : ∀ c ∈ x.cps.toList, c < 128
theorem Tx.mono {n m : Nat} {x : Str} (h : Tx n x) (k : n ≤ m) : Tx m x := ⟨Nat.le_trans h.len k, h.cp⟩
theorem Tx.app {n m : Nat} {x y : Str} (h : Tx n x) (k : Tx m y) : Tx (n + m) (x ++ y) := ⟨by rw [app_len]; exact Nat.add_le_add h.len k.len, fun c hc => by
  rw [app_list] at hc
  exact (List.mem_append.mp hc).elim (h.cp c) (k.cp c)⟩
theorem Tx.one {c : Nat} (h : c < 128) : Tx 1 ⟨#[c]⟩ := ⟨Nat.le_refl _, fun d hd => by
  have : d = c := by simpa using hd
  omega⟩
theorem Tx.slice {n : Nat} {x : Str} (h : Tx n x) (lo hi : Option Int) : Tx n (Txt.slice x lo hi) := by
  refine ⟨Nat.le_trans (Txt.slice_le x lo hi) h.len, fun c hc => h.cp c ?_⟩
  unfold Txt.slice at hc
  split at hc
  · exact hc
  · have hc' : c ∈ List.filterMap (fun i => x.cps[i]?) (strSliceIndices lo hi 1 x.length) := by simpa using hc
    obtain ⟨i, _, e⟩ := List.mem_filterMap.mp hc'
    rw [← Array.getElem?_toList] at e
    exact List.mem_of_getElem? e
theorem join_tx : ∀ {n : Nat} {ys : List Str}, (∀ y ∈ ys, Tx n y) → Tx (ys.length * n) (Txt.join "" ys) := by
  intro n ys h
  have e : Txt.join "" ys = Str.join "" ys := StrLaws.glued_eq_join "" ys
  rw [e]
  clear e
  have emp : Tx 0 (Str.ofString "") := ⟨by decide, by decide⟩
  induction ys with
  | nil => exact ⟨Nat.zero_le _, fun c hc => by cases hc⟩
  | cons y ys ih =>
    have hy := h y List.mem_cons_self
    have hr := ih fun z hz => h z (List.mem_cons_of_mem _ hz)
    cases ys with
    | nil => exact hy.mono (by simp)
    | cons z zs =>
      have := (hy.app emp).app hr
      refine Tx.mono this ?_
      simp only [List.length_cons]
      rw [Nat.succ_mul (zs.length + 1)]
      omega
end L2


set_option Elab.async false
set_option linter.all false
set_option maxRecDepth 100000
set_option maxHeartbeats 4000000
namespace L2
open PySem PySem.Spec PyProof.Rows
theorem noFree {X : Cx} {names : List (Str × NameKind)} (h : names.all (fun y => y.2 != .free) = true) : ∀ y ∈ names, y.2 = .free → X.env.kindOf y.1 = some .cell ∨ X.env.kindOf y.1 = some .free := fun y hy hf => by
  have := List.all_eq_true.mp h y hy
  rw [hf] at this
  exact absurd this (by decide)
theorem visC {X : Cx} {scope : Scope} (st : Stmt) (h : ∀ y ∈ scope.names, y.2 = .free → (defScope st).names.lookup y.1 = some .cell) (he : X.env.scope = defScope st := by rfl) : ∀ y ∈ scope.names, y.2 = .free → X.env.kindOf y.1 = some .cell ∨ X.env.kindOf y.1 = some .free := fun y hy hf => by
  refine .inl ?_
  show X.env.scope.names.lookup y.1 = some .cell
  rw [he]
  exact h y hy hf
theorem frees_of {X : Cx} {scope : Scope} (ts : List Str) (fs : List (Str × Nat)) (N0 : List Str) (h : ∀ p ∈ fs, scope.names.lookup p.1 = some .free ∧ N0[p.2]? = some p.1) (hN : X.N = N0 := by rfl) :
    Frees X scope (ts ++ fs.map (·.1)) (fun σ => ts.map (fun _ => none) ++ fs.map fun p => (σ[p.2]?).join) where
  len := fun σ => by simp
  at_ := fun σ i y v e1 e2 => by
    by_cases hi : i < ts.length
    · rw [List.getElem?_append_left (by simpa using hi), List.getElem?_map, List.getElem?_eq_getElem hi] at e2
      cases e2
    · rw [List.getElem?_append_right (by simpa using hi), List.getElem?_map] at e1 e2
      rw [List.length_map] at e2
      cases q : fs[i - ts.length]? with
      | none => rw [q] at e1; cases e1
      | some p =>
        rw [q] at e1 e2
        have e1' : p.1 = y := Option.some.inj e1
        have e2' : (σ[p.2]?).join = some v := Option.some.inj e2
        subst e1'
        obtain ⟨a, b⟩ := h p (List.mem_of_getElem? q)
        refine ⟨a, p.2, by rw [hN]; exact b, ?_⟩
        cases z : σ[p.2]? with
        | none => rw [z] at e2'; cases e2'
        | some o =>
          rw [z] at e2'
          have : o = some v := e2'
          rw [this]
theorem relab_other {env : Env} : ∀ {names : List (Str × NameKind)} {x : Str} {k : NameKind}, k ≠ .free → names.lookup x = some k →
    (names.map fun (n, k) => if (k == NameKind.free && env.scope.kind == .function && env.kindOf n == some .cell) then (n, NameKind.cell) else (n, k)).lookup x = some k
  | [], _, _, _, h => by cases h
  | (n, k') :: r, x, k, hk, h => by
    have ih := @relab_other env r x k hk
    show List.lookup x ((if (k' == NameKind.free && env.scope.kind == .function && env.kindOf n == some .cell) = true then (n, NameKind.cell) else (n, k')) :: _) = some k
    rw [List.lookup_cons] at h
    by_cases hx : (x == n) = true
    · rw [hx] at h
      have e : k' = k := Option.some.inj h
      subst e
      rw [if_neg, List.lookup_cons, hx]
      intro c
      simp only [Bool.and_eq_true, beq_iff_eq] at c
      exact hk c.1.1
    · have hx' : (x == n) = false := by simpa using hx
      rw [hx'] at h
      split
      · rw [List.lookup_cons, hx']; exact ih h
      · rw [List.lookup_cons, hx']; exact ih h
section
variable {X : Cx} {N : List Str} {scope : Scope} {cl : List (Str × Addr)} {C : Addr} {s : Shared} {H : Hp} {fp : List Addr} {pins : List (Addr × Obj)} {x : Str}
theorem c_loc (h : scope.names.lookup x = some .local) : (cxComp X N scope cl C s H fp pins).env.scope.names.lookup x = some .local := relab_other (by decide) h
theorem c_vloc (h : scope.names.lookup x = some .local) : Vis (cxComp X N scope cl C s H fp pins).env.scope x := .inl (c_loc h)
theorem c_free (h : scope.names.lookup x = some .free) : Vis (cxComp X N scope cl C s H fp pins).env.scope x := .inr (relabel_free h)
theorem c_gl (h : scope.names.lookup x = some .globalImplicit) : Gl (cxComp X N scope cl C s H fp pins) x := relab_other (by decide) h
end
section
variable {X : Cx} {es : List Expr} {te : TE} {t : TA}
theorem pa_BinOp {a b : Expr} {o : Operator} {c : Pos} (ha : PE X (.BinOp a o b c) te) (hr : PA X es t) : PA X ((.BinOp a o b c) :: es) (tCons te t) := pa_cons ha hr rfl
theorem pa_UnaryOp {o : UnaryOp} {a : Expr} {c : Pos} (ha : PE X (.UnaryOp o a c) te) (hr : PA X es t) : PA X ((.UnaryOp o a c) :: es) (tCons te t) := pa_cons ha hr rfl
theorem pa_ListComp {a : Expr} {b : List Comprehension} {d : Scope} {c : Pos} (ha : PE X (.ListComp a b d c) te) (hr : PA X es t) : PA X ((.ListComp a b d c) :: es) (tCons te t) := pa_cons ha hr rfl
theorem pa_Compare {a : Expr} {o : List CmpOp} {b : List Expr} {c : Pos} (ha : PE X (.Compare a o b c) te) (hr : PA X es t) : PA X ((.Compare a o b c) :: es) (tCons te t) := pa_cons ha hr rfl
theorem pa_Call {a : Expr} {b : List Expr} {d : List Keyword} {c : Pos} (ha : PE X (.Call a b d c) te) (hr : PA X es t) : PA X ((.Call a b d c) :: es) (tCons te t) := pa_cons ha hr rfl
theorem pa_Constant {a : Const} {b : Nat} {c : Pos} (ha : PE X (.Constant a b c) te) (hr : PA X es t) : PA X ((.Constant a b c) :: es) (tCons te t) := pa_cons ha hr rfl
theorem pa_Subscript {a b : Expr} {c : Pos} (ha : PE X (.Subscript a b c) te) (hr : PA X es t) : PA X ((.Subscript a b c) :: es) (tCons te t) := pa_cons ha hr rfl
theorem pa_Name {a : Str} {c : Pos} (ha : PE X (.Name a c) te) (hr : PA X es t) : PA X ((.Name a c) :: es) (tCons te t) := pa_cons ha hr rfl
theorem pa_Tuple {b : List Expr} {a : Nat} {c : Pos} (ha : PE X (.Tuple b a c) te) (hr : PA X es t) : PA X ((.Tuple b a c) :: es) (tCons te t) := pa_cons ha hr rfl
end
end L2


set_option Elab.async false
set_option linter.all false
set_option maxRecDepth 100000
set_option maxHeartbeats 4000000
namespace L2
open PySem PySem.Spec PyProof.Rows
def Tells (t : TT) (σ : St) (H : Hp) (b : Bool) : Prop := ∀ R : Bool → Hp → Prop, (∀ H', Same H H' → R b H') → t σ H R
theorem Tells.or {tA tB : TT} {σ : St} {H : Hp} {a b : Bool} (hA : Tells tA σ H a) (hB : a = false → ∀ H', Same H H' → Tells tB σ H' b) : Tells (tOr tA tB) σ H (a || b) := by
  intro R h
  refine hA _ fun H1 s1 => ?_
  cases a with
  | true => exact h H1 s1
  | false =>
    rw [if_neg (by decide)]
    exact hB rfl H1 s1 _ fun H2 s2 => h H2 (s1.trans s2)
theorem ifS_by {c : TT} {t u : TS} {D : Ends} {σ : St} {H : Hp} {b : Bool} (hc : Tells c σ H b) (h1 : b = true → ∀ H', Same H H' → t D σ H') (h0 : b = false → ∀ H', Same H H' → u D σ H') : tIfS c t u D σ H := by
  refine hc _ fun H' s => ?_
  cases b with
  | true => exact h1 rfl H' s
  | false => exact h0 rfl H' s
theorem same_upd {H H' : Hp} {p : Addr} {o : HO} (s : Same H H') (h : H p = none) : Same H (upd H' p o) := fun b u e => by
  rw [upd_ne (ne_of_none e h)]
  exact s b u e
end L2


set_option Elab.async false
set_option linter.all false
set_option maxRecDepth 100000
set_option maxHeartbeats 4000000
namespace L2
open PySem PySem.Spec PyProof.Rows
end L2


set_option Elab.async false
set_option linter.all false
set_option maxRecDepth 100000
set_option maxHeartbeats 4000000
namespace L2
open PySem PySem.Spec PyProof.Rows
theorem Same.seqT {K : PySem.W.Frag} {H H' : Hp} {a : Addr} {xs : List V} (e : Same H H') (h : SqT K H a xs) : SqT K H' a xs := by
  rcases h with (h | ⟨o, h⟩) | h
  · exact .inl (.inl (e _ _ h))
  · exact .inl (.inr ⟨o, e _ _ h⟩)
  · exact .inr h
theorem pair_get {α β : Type} {F : α → β → Prop} : ∀ {xs : List α} {ys : List β}, Paired F xs ys → ∀ (j : Nat) (a : α) (b : β), xs[j]? = some a → ys[j]? = some b → F a b
  | _, _, .nil, _, _, _, h, _ => by cases h
  | x :: xs, y :: ys, .cons r t, j, a, b, h1, h2 => by
    cases j with
    | zero => cases h1; cases h2; exact r
    | succ j => exact pair_get t j a b (by simpa using h1) (by simpa using h2)
section
variable {X : Cx} {pins : List (Addr × Obj)} {σ : St} {H : Hp} {s : Shared}
end
end L2


set_option Elab.async false
set_option linter.all false
set_option maxRecDepth 100000
set_option maxHeartbeats 4000000
namespace Dt
open PySem PySem.Spec PyProof.Rows
section
variable {prog : Program} {w : World} {A : Around} {E : Value → Shared → Prop} {s : Shared}
end
section
variable {prog : Program} {w : World} {K : Type} [DecidableEq K] {knd : KeyKind prog w K} {A : Around} {E : Value → Shared → Prop} {s : Shared}
end
end Dt
namespace Dt
open PySem PySem.Spec PyProof.Rows
section
variable {prog : Program} {w : World} {K : Type} [DecidableEq K] {knd : KeyKind prog w K} {A : Around} {E : Value → Shared → Prop} {s : Shared}
end
end Dt


set_option Elab.async false
set_option linter.all false
set_option maxRecDepth 100000
set_option maxHeartbeats 4000000
namespace L2
open PySem PySem.Spec PyProof.Rows
section
variable {X : Cx} {pins : List (Addr × Obj)} {σ : St} {H : Hp} {s : Shared}
theorem Inv.adoptN {a : Addr} {o : HO} (I : Inv X pins σ H s) (hn : H a = none) (h0 : ∀ u, X.s₀.heap.get? a = some u → a ∉ X.ex → False) (hL : a ≠ X.env.locals) (hC : ∀ x c, X.env.cells.lookup x = some c → c ≠ a) (hp : ∀ p ∈ X.pn ++ pins, p.1 ≠ a) (ok : ObjOk X.prog X.w (upd H a o) s.heap a o) : Inv X pins σ (upd H a o) s := by
  refine ⟨I.ok, I.os, I.bare, ⟨I.base.keep, I.base.slot, fun b u e n hx => ?_, I.base.there, fun b xs q => ?_, fun b u xs q => ?_, fun b ps q => ?_⟩, I.loc, I.cell, ?_, fun x c e => ?_, fun p hp' => ?_, fun b u e => ?_, I.len⟩
  · rw [upd_ne (fun z => by rw [z] at e hx; exact h0 u e hx)]; exact I.base.free b u e n hx
  · have z := I.base.tups b xs q
    rw [upd_ne (ne_of_none z hn)]; exact z
  · have z := I.base.frzs b u xs q
    rw [upd_ne (ne_of_none z hn)]; exact z
  · obtain ⟨more, z⟩ := I.base.tbls b ps q
    exact ⟨more, by rw [upd_ne (ne_of_none z hn)]; exact z⟩
  · rw [upd_ne (Ne.symm hL)]; exact I.free
  · rw [upd_ne (hC x c e)]; exact I.freeC x c e
  · obtain ⟨e, n, ne, nf, d⟩ := I.pin p hp'
    exact ⟨e, by rw [upd_ne (hp p hp')]; exact n, ne, nf, d⟩
  · by_cases hb : b = a
    · subst hb; rw [upd_same] at e; cases e; exact ok
    · rw [upd_ne hb] at e
      exact (I.hok b u e).stay (fun c v _ q => q) (fun c q => by rw [upd_ne (ne_of_none q hn)]; exact q) fun c xs q => by rw [upd_ne (ne_of_none q hn)]; exact q
theorem Inv.later {a : Addr} {o : HO} {H1 : Hp} {s1 : Shared} (I : Inv X pins σ H s) (hB : s.heap.get? a = none) (J : Inv X pins σ H1 s1) (hn : H1 a = none) (ok : ObjOk X.prog X.w (upd H1 a o) s1.heap a o) : Inv X pins σ (upd H1 a o) s1 := by
  have nl : ∀ b u, s.heap.get? b = some u → b ≠ a := fun b u e z => by rw [z, hB] at e; cases e
  refine J.adoptN hn (fun u e hx => ?_) ?_ (fun x c e => ?_) (fun p hp => nl _ _ (I.pin p hp).1) ok
  · obtain ⟨o', e'⟩ := I.base.there a u e hx
    exact nl a o' e' rfl
  · obtain ⟨m, ⟨oL, es, ep, eL, _⟩, _⟩ := id I.loc
    exact Ne.symm (nl _ _ eL)
  · obtain ⟨v, oc, ec, _⟩ := I.cell x c e
    exact nl _ _ ec
end
end L2


set_option Elab.async false
set_option linter.all false
set_option maxRecDepth 100000
set_option maxHeartbeats 4000000
namespace Srt
open PySem PySem.W PyProof.Rows
section
variable {key : Nat → Int} {n : Nat}
variable (hk : ∀ i j, i < n → j < n → key i = key j → i = j)
include hk
end
end Srt


set_option Elab.async false
set_option linter.all false
set_option maxRecDepth 100000
set_option maxHeartbeats 4000000
namespace Dt
open PySem PySem.W PySem.Spec PyProof.Rows
section
variable {prog : Program} {w : World} {A : Around} {E : Value → Shared → Prop} {s : Shared}
end
section
variable {prog : Program} {w : World} {K : Type} [DecidableEq K] {knd : KeyKind prog w K} {A : Around} {E : Value → Shared → Prop} {s : Shared}
end
end Dt
namespace L2
open PySem PySem.Spec PyProof.Rows
end L2


set_option Elab.async false
set_option linter.all false
set_option maxRecDepth 100000
set_option maxHeartbeats 4000000
namespace Dt
open PySem PySem.Spec PyProof.Rows
open AutoSeq1 (wpAny_loadPart')
section
variable {prog : Program} {w : World} {A : Around} {E : Value → Shared → Prop} {s : Shared}
theorem next_tuple {it t : Addr} {i : Nat} {items : Array Value} {x : Value} {Q : Value → Shared → Prop} (hit : s.heap.IsTupleIter it t i) (ht : s.heap.IsTuple t items) (hx : items[i]? = some x)
    (hQ : ∀ h', h'.IsTupleIter it t (i + 1) → Heap.SameBut it s.heap h' → Q x { s with heap := h' }) : wpAny (model prog w) A (Builtin.SmallTypes.nextOf (.ref it)) Q E s := by
  obtain ⟨o, ho, hc, hd⟩ := id hit
  obtain ⟨ol, hol, _, nl, hdl⟩ := ht
  unfold Builtin.SmallTypes.nextOf
  refine wpAny_bind (wpAny_callSpecial?_slot (name := Str.ofString "__next__") hit.typeIs PySem.F.slot_tuple_iterator_next
    (wpAny_call_entry PySem.F.slot_tuple_iterator_next hit.typeIs PySem.F.entry_tuple_iterator_next ?_ (PySem.F.args_tuple_iterator_next_1 _)))
  show wpAny _ _ (field (.ref it) 0 >>= _) _ _ s
  refine wpAny_bind (wpAny_field ho hd (x := .ref t) rfl ?_)
  show wpAny _ _ (if (Value.ref t == Value.none) = true then _ else _) _ _ s
  rw [if_neg (show ¬ ((Value.ref t == Value.none) = true) from Bool.false_ne_true)]
  show wpAny _ _ (field (.ref it) 1 >>= _) _ _ s
  refine wpAny_bind (wpAny_field ho hd (x := .int i 0) rfl ?_)
  show wpAny _ _ (seqItems? (.ref t) >>= _) _ _ s
  refine wpAny_bind (wpAny_seqItems hol hdl ?_)
  simp only [Int.toNat_natCast, hx]
  refine wpAny_bind (wpAny_setField ho hd (by simp) (wpAny_pure ⟨x, rfl, wpAny_pure (hQ _ ?_ (Heap.SameBut.update ..))⟩))
  exact ⟨_, Heap.get?_update_self _ ho (Obj.isFreed_of_fields (Obj.data_mapFields hd _)), (Obj.cls_mapFields ..).trans hc, by
    rw [Obj.data_mapFields hd]; simp [rawInt]⟩
theorem next_tuple_end {it t : Addr} {i : Nat} {items : Array Value} {Q : Value → Shared → Prop} (hh : A.handled = none) (hit : s.heap.IsTupleIter it t i) (ht : s.heap.IsTuple t items) (hx : items[i]? = none)
    (hE : ∀ h' e, Heap.ExtBut it s.heap h' → (∃ o, h'.get? e = some o ∧ o.cls = .type "StopIteration") → E (.ref e) { s with heap := h' }) : wpAny (model prog w) A (Builtin.SmallTypes.nextOf (.ref it)) Q E s := by
  obtain ⟨o, ho, hc, hd⟩ := id hit
  obtain ⟨ol, hol, _, nl, hdl⟩ := ht
  unfold Builtin.SmallTypes.nextOf
  refine wpAny_bind (wpAny_callSpecial?_slot (name := Str.ofString "__next__") hit.typeIs PySem.F.slot_tuple_iterator_next
    (wpAny_call_entry PySem.F.slot_tuple_iterator_next hit.typeIs PySem.F.entry_tuple_iterator_next ?_ (PySem.F.args_tuple_iterator_next_1 _)))
  show wpAny _ _ (field (.ref it) 0 >>= _) _ _ s
  refine wpAny_bind (wpAny_field ho hd (x := .ref t) rfl ?_)
  show wpAny _ _ (if (Value.ref t == Value.none) = true then _ else _) _ _ s
  rw [if_neg (show ¬ ((Value.ref t == Value.none) = true) from Bool.false_ne_true)]
  show wpAny _ _ (field (.ref it) 1 >>= _) _ _ s
  refine wpAny_bind (wpAny_field ho hd (x := .int i 0) rfl ?_)
  show wpAny _ _ (seqItems? (.ref t) >>= _) _ _ s
  refine wpAny_bind (wpAny_seqItems hol hdl ?_)
  simp only [Int.toNat_natCast, hx]
  refine wpAny_bind (wpAny_rule (wpAny_bind (wpAny_setField ho hd (by simp) ?_)))
  show wpAny _ _ (newExc (.type "StopIteration") [] >>= _) _ _ _
  refine wpAny_bind ?_
  simp only [newExc, newTuple]
  refine wpAny_bind (wpAny_newObj_type ?_ (by size_fits))
  refine wpAny_bind (m := firstArgMember _ _) (wpAny_of_eq (a := Value.none) (by first | rfl | (simp only [firstArgMember]; rfl)) ?_)
  refine wpAny_newObj_type ?_ (by size_fits)
  unfold raiseNew
  refine wpAny_bind (wpAny_handled ?_)
  first | rw [show A.in1.handled = none from hh] | rw [hh]
  refine wpAny_bind (wpAny_pure (wpAny_throw ?_))
  exact hE _ _ (((Heap.SameBut.update ..).extBut.push _).push _) ⟨_, Heap.get?_push_size _ rfl, rfl⟩
end
end Dt
namespace L2
open PySem PySem.Spec PyProof.Rows
theorem op_eqT0 {X : Cx} {K : PySem.W.Frag} (hK : X.K = K) (hu : X.A.units < cLine) : OpR X (compareOp .Eq) (fun x y H Q => ∃ p q xs, x = .ref p ∧ y = .ref q ∧ SqT K H p xs ∧ SqT K H q [] ∧ Q (.bl xs.isEmpty) H) := by
  subst hK
  intro pins s σ H x y v u Q I rx ry h
  obtain ⟨p, q, xs, rfl, rfl, hx, hy, hq⟩ := h
  cases rx
  cases ry
  obtain ⟨its, r, pl, hz⟩ := I.tuple hx
  obtain ⟨its2, r2, pl2, hz2⟩ := I.tuple hy
  cases r2
  refine SeqAt.eq_tupleAt (e := fun _ => true) (show s.heap.IsTuple p its.toArray from pl) (show s.heap.IsTuple q #[] from pl2) hu (fun j h1 h2 => absurd h2 (Nat.not_lt_zero j)) ?_
  have e : ((List.range (min its.toArray.size (#[] : Array Value).size)).all (fun _ => true) && its.toArray.size == (#[] : Array Value).size) = xs.isEmpty := by
    cases r with
    | nil => rfl
    | cons a b => rfl
  rw [e]
  exact ⟨.bl _, H, I, rfl, hq⟩
end L2


set_option Elab.async false
set_option linter.all false
set_option maxRecDepth 100000
set_option maxHeartbeats 4000000
namespace L2
open PySem PySem.Spec PyProof.Rows
def hid (D : Addr) (H : Hp) : Hp := fun b => if b = D then none else H b
theorem hid_ne {D b : Addr} {H : Hp} (h : b ≠ D) : hid D H b = H b := by unfold hid; rw [if_neg h]
theorem hid_at {D : Addr} {H : Hp} : hid D H D = none := by unfold hid; rw [if_pos rfl]
theorem hid_upd {D : Addr} {H : Hp} {o : HO} : hid D (upd H D o) = hid D H := by
  funext b
  unfold hid
  by_cases h : b = D
  · rw [if_pos h, if_pos h]
  · rw [if_neg h, if_neg h, upd_ne h]
theorem hid_none {D : Addr} {H : Hp} (h : H D = none) : hid D H = H := by
  funext b
  unfold hid
  by_cases e : b = D
  · rw [if_pos e, e, h]
  · rw [if_neg e]
theorem hid_le {D : Addr} {H : Hp} : Same (hid D H) H := fun b o e => by
  by_cases h : b = D
  · rw [h, hid_at] at e; cases e
  · rw [hid_ne h] at e; exact e
theorem hid_same {D : Addr} {H H' : Hp} (s : Same H H') : Same (hid D H) (hid D H') := fun b o e => by
  by_cases h : b = D
  · rw [h, hid_at] at e; cases e
  · rw [hid_ne h] at e ⊢; exact s b o e
theorem SqT.hid {K : PySem.W.Frag} {H : Hp} {D p : Addr} {xs ys : List V} (e : H D = some (.lst ys)) (h : SqT K H p xs) : SqT K (hid D H) p xs := by
  rcases h with (h | ⟨o, h⟩) | h
  · refine .inl (.inl ?_)
    rw [hid_ne (ne_of h e (fun z => nomatch z))]; exact h
  · refine .inl (.inr ⟨o, ?_⟩)
    rw [hid_ne (ne_of h e (fun z => nomatch z))]; exact h
  · exact .inr h
theorem tup_hid {H : Hp} {D p : Addr} {xs ys : List V} (e : H D = some (.lst ys)) (h : H p = some (.tup xs)) : hid D H p = some (.tup xs) := by
  rw [hid_ne (ne_of h e (fun z => nomatch z))]; exact h
theorem comp_same {J : It} {xs : List V} {g : TG} {ti : TT} {te : TE} {Fi : Hp → Prop} {σ1 : St} {H1 : Hp} {D : Addr} (hD : H1 D = none) (hz : xs.length < sizeLine)
    (hgo : ∀ (i : Nat) H', Same H1 H' → i < xs.length → J.go i H') (hst : ∀ H', Same H1 H' → J.stop xs.length H') (hy : ∀ (i : Nat) H' x H2, Same H1 H' → i < xs.length → J.yld i H' x H2 → H2 = H' ∧ xs[i]? = some x)
    (Pv : Nat → List V → St → Hp → Prop) (h0 : Pv 0 [] σ1 H1)
    (hs : ∀ i x ys σ H', xs[i]? = some x → Pv i ys σ (hid D H') → H' D = some (.lst ys) → Same H1 (hid D H') → ∀ (Ry : St → V → Hp → Prop) (Rn : St → Hp → Prop),
      (∀ σ2 y H5, Same H' H5 → Pv (i + 1) (ys ++ [y]) σ2 (hid D H5) → Ry σ2 y H5) → (∀ σ2 H4, Same H' H4 → Pv (i + 1) ys σ2 (hid D H4) → Rn σ2 H4) →
      g x σ H' fun σ2 H3 => ti σ2 H3 fun b H4 => if b = true then te σ2 H4 fun y H5 => Ry σ2 y H5 else Rn σ2 H4)
    (hd : ∀ ys σ H', Pv xs.length ys σ (hid D H') → H' D = some (.lst ys) → Same H1 (hid D H') → Fi H') :
    ∃ W : Nat → Nat → St → Hp → Prop, (∃ m, W 0 m σ1 (upd H1 D (.lst []))) ∧ ∀ i m σ' H', W i m σ' H' →
      (J.stop i H' ∧ Fi H') ∨ (J.go i H' ∧ ∀ x H2, J.yld i H' x H2 → g x σ' H2 fun σ2 H3 => ti σ2 H3 fun b H4 => if b = true then te σ2 H4 fun y H5 => ∃ ys, H5 D = some (.lst ys) ∧ ys.length < sizeLine ∧ ∃ m', m' < m ∧ W (i + 1) m' σ2 (upd H5 D (.lst (ys ++ [y])))
        else ∃ m', m' < m ∧ W (i + 1) m' σ2 H4) := by
  refine ⟨fun i m σ H' => m = xs.length - i ∧ i ≤ xs.length ∧ ∃ ys, ys.length ≤ i ∧ H' D = some (.lst ys) ∧ Same H1 (hid D H') ∧ Pv i ys σ (hid D H'), ⟨xs.length, by simp, Nat.zero_le _, [], Nat.le_refl _, upd_same, ?_, ?_⟩, ?_⟩
  · rw [hid_upd, hid_none hD]; exact fun _ _ e => e
  · rw [hid_upd, hid_none hD]; exact h0
  rintro i m σ H' ⟨rfl, hi, ys, hl, eD, sm, p⟩
  have sm' : Same H1 H' := fun b o e => hid_le b o (sm b o e)
  by_cases hlt : i < xs.length
  · refine .inr ⟨hgo i H' sm' hlt, fun x H2 y => ?_⟩
    obtain ⟨rfl, hx⟩ := hy i H' x H2 sm' hlt y
    refine hs i x ys σ H2 hx p eD sm _ _ (fun σ2 y H5 s5 p5 => ?_) (fun σ2 H4 s4 p4 => ?_)
    · refine ⟨ys, s5 _ _ eD, by omega, xs.length - (i + 1), by omega, rfl, hlt, ys ++ [y], by rw [List.length_append, List.length_singleton]; omega, upd_same, ?_, ?_⟩
      · rw [hid_upd]; exact fun b o e => hid_same s5 b o (sm b o e)
      · rw [hid_upd]; exact p5
    · exact ⟨xs.length - (i + 1), by omega, rfl, hlt, ys, by omega, s4 _ _ eD, fun b o e => hid_same s4 b o (sm b o e), p4⟩
  · have e : i = xs.length := by omega
    subst e
    exact .inl ⟨hst H' sm', hd ys σ H' p eD sm⟩
section
variable {K : PySem.W.Frag} {a : Addr} {xs : List V} {H1 : Hp}
theorem goL (h : SqL K H1 a xs) (i : Nat) (H' : Hp) (s : Same H1 H') (hi : i < xs.length) : (Itl K a).go i H' := ⟨xs, xs[i], s.seq h, List.getElem?_eq_getElem hi⟩
theorem stL (h : SqL K H1 a xs) (H' : Hp) (s : Same H1 H') : (Itl K a).stop xs.length H' := ⟨xs, s.seq h, Nat.le_refl _⟩
theorem yL (h : SqL K H1 a xs) (i : Nat) (H' : Hp) (x : V) (H2 : Hp) (s : Same H1 H') (_ : i < xs.length) (y : (Itl K a).yld i H' x H2) : H2 = H' ∧ xs[i]? = some x := ⟨y.1, y.2 xs (s.seq h)⟩
theorem goR {n : Nat} (i : Nat) (H' : Hp) (s : Same H1 H') (hi : i < ((List.range n).map fun (k : Nat) => V.int (0 + k)).length) : (Itr 0 n).go i H' := by
  show i < n
  simpa using hi
theorem stR {n : Nat} (H' : Hp) (s : Same H1 H') : (Itr 0 n).stop ((List.range n).map fun (k : Nat) => V.int (0 + k)).length H' := by
  show n ≤ _
  simp
theorem yR {n : Nat} (i : Nat) (H' : Hp) (x : V) (H2 : Hp) (s : Same H1 H') (hi : i < ((List.range n).map fun (k : Nat) => V.int (0 + k)).length) (y : (Itr 0 n).yld i H' x H2) : H2 = H' ∧ ((List.range n).map fun (k : Nat) => V.int (0 + k))[i]? = some x := ⟨y.1, by rw [List.getElem?_map, List.getElem?_range (by simpa using hi), y.2]; rfl⟩
end
theorem ix_tupK {X : Cx} {K : PySem.W.Frag} (hK : X.K = K) : IxR X (rIxT K) := hK ▸ ix_tup
theorem pgc2 {X : Cx} {N : List Str} {scope : Scope} {x y : Str} {px py pos : Pos} {k i j : Nat} (hc : X.calm = true) (hN : N.Nodup) (hi : N[i]? = some x) (hj : N[j]? = some y) (h1 : scope.names.lookup x = some .local) (h2 : scope.names.lookup y = some .local) :
    ∀ cl C s H fp pins, PG (cxComp X N scope cl C s H fp pins) (.Tuple [.Name x px, .Name y py] k pos) (gTup X.K 2 (gCons (gName i) (gCons (gName j) gNil))) := fun cl C s H fp pins =>
  pg_tup hc (pgs_cons (pg_name hN hi (Or.inl (c_loc h1)) (.inr (c_loc h1))) (pgs_cons (pg_name hN hj (Or.inl (c_loc h2)) (.inr (c_loc h2))) pgs_nil))
end L2


set_option Elab.async false
set_option linter.all false
set_option maxRecDepth 100000
set_option maxHeartbeats 4000000
namespace Dt
open PySem PySem.Spec PyProof.Rows
def ItK (k : Bool) (h : Heap) (it a : Addr) (i : Nat) : Prop := match k with | true => h.IsTupleIter it a i | false => h.IsListIter it a i
def RawK (k : Bool) (h : Heap) (a : Addr) (items : Array Value) : Prop := match k with | true => h.IsTuple a items | false => h.IsList a items
def itn (k : Bool) : String := match k with | true => "tuple_iterator" | false => "list_iterator"
theorem ItK.mk {k : Bool} {h : Heap} {it a : Addr} {i : Nat} (e : h.get? it = some { cls := .type (itn k), data := .fields #[.ref a, .int i 0] }) : ItK k h it a i := by
  cases k
  · exact ⟨_, e, rfl, rfl⟩
  · exact ⟨_, e, rfl, rfl⟩
theorem ItK.to {k : Bool} {h h' : Heap} {it a : Addr} {i : Nat} (x : ItK k h it a i) (f : ∀ o, h.get? it = some o → h'.get? it = some o) : ItK k h' it a i := by
  cases k
  · obtain ⟨o, e, r⟩ := x; exact ⟨o, f o e, r⟩
  · obtain ⟨o, e, r⟩ := x; exact ⟨o, f o e, r⟩
theorem RawK.to {k : Bool} {h h' : Heap} {a : Addr} {items : Array Value} (x : RawK k h a items) (f : ∀ o, h.get? a = some o → h'.get? a = some o) : RawK k h' a items := by
  cases k
  · obtain ⟨o, e, r⟩ := x; exact ⟨o, f o e, r⟩
  · obtain ⟨o, e, r⟩ := x; exact ⟨o, f o e, r⟩
theorem ItK.obj {k : Bool} {h : Heap} {it a : Addr} {i : Nat} (x : ItK k h it a i) : ∃ o, h.get? it = some o ∧ ∀ v, o.data ≠ .cell v := by
  cases k
  · obtain ⟨o, e, c, d⟩ := x; exact ⟨o, e, fun v z => by rw [d] at z; cases z⟩
  · obtain ⟨o, e, c, d⟩ := x; exact ⟨o, e, fun v z => by rw [d] at z; cases z⟩
theorem RawK.lt {k : Bool} {h : Heap} {a : Addr} {items : Array Value} (x : RawK k h a items) : a < h.objs.size := by
  cases k
  · obtain ⟨o, e, r⟩ := x; exact Heap.lt_size e
  · obtain ⟨o, e, r⟩ := x; exact Heap.lt_size e
section
variable {prog : Program} {w : World} {A : Around} {E : Value → Shared → Prop} {s : Shared}
theorem next_k {k : Bool} {it a : Addr} {i : Nat} {items : Array Value} {x : Value} {Q : Value → Shared → Prop} (hit : ItK k s.heap it a i) (ht : RawK k s.heap a items) (hx : items[i]? = some x)
    (hQ : ∀ h', ItK k h' it a (i + 1) → Heap.SameBut it s.heap h' → Q x { s with heap := h' }) : wpAny (model prog w) A (Builtin.SmallTypes.nextOf (.ref it)) Q E s := by
  cases k
  · exact wpAny_nextOf_list_item hit ht hx hQ
  · exact next_tuple hit ht hx hQ
theorem next_k_end {k : Bool} {it a : Addr} {i : Nat} {items : Array Value} {Q : Value → Shared → Prop} (hh : A.handled = none) (hit : ItK k s.heap it a i) (ht : RawK k s.heap a items) (hx : items[i]? = none)
    (hE : ∀ h' e, Heap.ExtBut it s.heap h' → (∃ o, h'.get? e = some o ∧ o.cls = .type "StopIteration") → E (.ref e) { s with heap := h' }) : wpAny (model prog w) A (Builtin.SmallTypes.nextOf (.ref it)) Q E s := by
  cases k
  · exact wpAny_nextOf_list_end hh hit ht hx hE
  · exact next_tuple_end hh hit ht hx hE
theorem zip_item {k1 k2 : Bool} {z TI TO i1 i2 l1 l2 : Addr} {n1 n2 : Nat} {xs ys : Array Value} {x y a b : Value} {Q : Value → Shared → Prop} (D : ZipApart z TI TO i1 i2 l1 l2)
    (hz : IsZip s.heap z TI TO .none) (hTI : IsPair s.heap TI (.ref i1) (.ref i2)) (hTO : IsPair s.heap TO a b)
    (h1 : ItK k1 s.heap i1 l1 n1) (h2 : ItK k2 s.heap i2 l2 n2) (hl1 : RawK k1 s.heap l1 xs) (hl2 : RawK k2 s.heap l2 ys) (hx : xs[n1]? = some x) (hy : ys[n2]? = some y)
    (hQ : ∀ h', IsZip h' z TI TO (rawInt s.heap.objs.size) → IsPair h' TO x y → ItK k1 h' i1 l1 (n1 + 1) → ItK k2 h' i2 l2 (n2 + 1) → IsPair h' s.heap.objs.size x y → h'.objs.size = s.heap.objs.size + 1 →
      (∀ c o, c ≠ z → c ≠ TO → c ≠ i1 → c ≠ i2 → s.heap.get? c = some o → h'.get? c = some o) → Q (.ref s.heap.objs.size) { s with heap := h' }) :
    wpAny (model prog w) A (Builtin.«zip.__next__» ⟨[.ref z], []⟩) (fun fin s' => ∃ v, fin = .done (.ret v) ∧ Q v s') E s := by
  show wpAny _ _ (field (.ref z) 2 >>= _) _ _ _
  refine wpAny_bind (wpAny_field hz rfl (x := .bool false) rfl ?_)
  show wpAny _ _ (field (.ref z) 3 >>= _) _ _ _
  refine wpAny_bind (wpAny_field hz rfl (x := .ref TI) rfl ?_)
  refine wpAny_bind (wpAny_seqItems hTI rfl ?_)
  show wpAny _ _ (Builtin.SmallTypes.ownedTupleIsFree (.ref z) >>= _) _ _ _
  refine wpAny_bind ?_
  unfold Builtin.SmallTypes.ownedTupleIsFree
  refine wpAny_bind (wpAny_field hz rfl (x := .none) rfl (wpAny_pure ?_))
  simp only [if_true]
  refine wpAny_bind (wpAny_rule ?_)
  refine wpAny_bind (wpAny_field hz rfl (x := .ref TO) rfl ?_)
  refine wpAny_bind (wpAny_setField_rec hz (by simp) fun h₁ hz₁ hs₁ => ?_)
  replace hz₁ : IsZip h₁ z TI TO .ellipsis := hz₁
  have m₁ : ∀ c o, c ≠ z → s.heap.get? c = some o → h₁.get? c = some o := fun c o n e => hs₁.extBut _ _ n e
  refine wpAny_bind ?_
  simp only [List.zipIdx_cons, List.zipIdx_nil, List.forIn_cons, List.forIn_nil]
  refine wpAny_bind (wpAny_bind (wpAny_onRaise ?_))
  show wpAny _ _ (Builtin.SmallTypes.nextOf (.ref i1) >>= _) _ _ _
  refine wpAny_bind (next_k (h1.to fun o => m₁ _ o D.i1z) (hl1.to fun o => m₁ _ o D.l1z) hx fun h₂ h1₂ hs₂ => wpAny_pure ?_)
  have m₂ : ∀ c o, c ≠ z → c ≠ i1 → s.heap.get? c = some o → h₂.get? c = some o := fun c o n n' e => hs₂.extBut _ _ n' (m₁ c o n e)
  have hTO₂ : IsPair h₂ TO a b := m₂ _ _ D.TOz D.TOi1 hTO
  refine wpAny_bind (wpAny_seqItems hTO₂ rfl ?_)
  refine wpAny_bind (wpAny_updateSeq_pair hTO₂ fun h₃ hTO₃ hs₃ => ?_)
  replace hTO₃ : IsPair h₃ TO x b := hTO₃
  have m₃ : ∀ c o, c ≠ z → c ≠ i1 → c ≠ TO → s.heap.get? c = some o → h₃.get? c = some o := fun c o n n' n'' e => hs₃.extBut _ _ n'' (m₂ c o n n' e)
  refine wpAny_bind (wpAny_letGo (wpAny_pure ?_))
  refine wpAny_bind (wpAny_bind (wpAny_onRaise ?_))
  show wpAny _ _ (Builtin.SmallTypes.nextOf (.ref i2) >>= _) _ _ _
  refine wpAny_bind (next_k (h2.to fun o => m₃ _ o D.i2z D.i12.symm D.TOi2.symm) (hl2.to fun o => m₃ _ o D.l2z D.l2i1 D.l2TO) hy fun h₄ h2₄ hs₄ => wpAny_pure ?_)
  have hTO₄ : IsPair h₄ TO x b := hs₄.extBut _ _ D.TOi2 hTO₃
  refine wpAny_bind (wpAny_seqItems hTO₄ rfl ?_)
  refine wpAny_bind (wpAny_updateSeq_pair hTO₄ fun h₅ hTO₅ hs₅ => ?_)
  replace hTO₅ : IsPair h₅ TO x y := hTO₅
  refine wpAny_bind (wpAny_letGo (wpAny_pure (wpAny_pure ?_)))
  refine wpAny_bind (wpAny_seqItems hTO₅ rfl ?_)
  refine wpAny_bind (wpAny_newTuple ?_)
  have hsz : h₅.objs.size = s.heap.objs.size := by rw [hs₅.1, hs₄.1, hs₃.1, hs₂.1, hs₁.1]
  have hz₅ : IsZip h₅ z TI TO .ellipsis := hs₅.extBut _ _ D.TOz.symm (hs₄.extBut _ _ D.i2z.symm (hs₃.extBut _ _ D.TOz.symm (hs₂.extBut _ _ D.i1z.symm hz₁)))
  have hk₅ : ∀ c o, c ≠ z → c ≠ TO → c ≠ i1 → c ≠ i2 → s.heap.get? c = some o → h₅.get? c = some o := fun c o c1 c2 c3 c4 e => hs₅.extBut _ _ c2 (hs₄.extBut _ _ c4 (m₃ c o c1 c3 c2 e))
  have h1₅ : ItK k1 h₅ i1 l1 (n1 + 1) := h1₂.to fun o e => hs₅.extBut _ _ D.TOi1.symm (hs₄.extBut _ _ D.i12 (hs₃.extBut _ _ D.TOi1.symm e))
  have h2₅ : ItK k2 h₅ i2 l2 (n2 + 1) := h2₄.to fun o e => hs₅.extBut _ _ D.TOi2.symm e
  have hzlt : z < h₅.objs.size := Heap.lt_size hz₅
  show wpAny _ _ (Builtin.SmallTypes.ownedTupleHandOut (.ref z) (.ref h₅.objs.size) >>= _) _ _ _
  refine wpAny_bind ?_
  unfold Builtin.SmallTypes.ownedTupleHandOut
  have hz₆ : IsZip (h₅.push { cls := .type "tuple", data := .seq #[x, y] }) z TI TO .ellipsis := Heap.get?_push_of_some _ hz₅
  refine wpAny_bind (wpAny_setField_rec hz₆ (by simp) fun h₇ hz₇ hs₇ => ?_)
  replace hz₇ : IsZip h₇ z TI TO (rawInt h₅.objs.size) := hz₇
  refine wpAny_setField_rec hz₇ (by simp) fun h₈ hz₈ hs₈ => ?_
  replace hz₈ : IsZip h₈ z TI TO (rawInt h₅.objs.size) := hz₈
  have up : ∀ c o, c ≠ z → h₅.get? c = some o → h₈.get? c = some o := fun c o c1 e => hs₈.extBut _ _ c1 (hs₇.extBut _ _ c1 (Heap.get?_push_of_some _ e))
  have hT₈ : IsPair h₈ h₅.objs.size x y := hs₈.extBut _ _ (Nat.ne_of_gt hzlt) (hs₇.extBut _ _ (Nat.ne_of_gt hzlt) (Heap.get?_push_size _ rfl))
  have hz8 : h₈.objs.size = h₅.objs.size + 1 := by rw [hs₈.1, hs₇.1, Heap.size_push]
  rw [hsz] at hz₈ hT₈ hz8
  refine wpAny_pure ⟨_, rfl, ?_⟩
  show Q (.ref h₅.objs.size) _
  rw [hsz]
  exact hQ h₈ hz₈ (up _ _ D.TOz hTO₅) (h1₅.to fun o e => up _ o D.i1z e) (h2₅.to fun o e => up _ o D.i2z e) hT₈ hz8 fun c o c1 c2 c3 c4 e => up c o c1 (hk₅ c o c1 c2 c3 c4 e)
theorem zip_end {k1 k2 : Bool} {z TI TO i1 i2 l1 l2 : Addr} {n1 n2 : Nat} {xs ys : Array Value} {a b : Value} {Q : Fin → Shared → Prop} (hh : A.handled = none) (D : ZipApart z TI TO i1 i2 l1 l2)
    (hz : IsZip s.heap z TI TO .none) (hTI : IsPair s.heap TI (.ref i1) (.ref i2)) (hTO : IsPair s.heap TO a b)
    (h1 : ItK k1 s.heap i1 l1 n1) (h2 : ItK k2 s.heap i2 l2 n2) (hl1 : RawK k1 s.heap l1 xs) (hl2 : RawK k2 s.heap l2 ys) (hend : xs[n1]? = none ∨ ys[n2]? = none)
    (hE : ∀ h' e, (∀ c o, c ≠ z → c ≠ TO → c ≠ i1 → c ≠ i2 → s.heap.get? c = some o → h'.get? c = some o) → (∃ o, h'.get? e = some o ∧ o.cls = .type "StopIteration") → E (.ref e) { s with heap := h' }) :
    wpAny (model prog w) A (Builtin.«zip.__next__» ⟨[.ref z], []⟩) Q E s := by
  show wpAny _ _ (field (.ref z) 2 >>= _) _ _ _
  refine wpAny_bind (wpAny_field hz rfl (x := .bool false) rfl ?_)
  show wpAny _ _ (field (.ref z) 3 >>= _) _ _ _
  refine wpAny_bind (wpAny_field hz rfl (x := .ref TI) rfl ?_)
  refine wpAny_bind (wpAny_seqItems hTI rfl ?_)
  show wpAny _ _ (Builtin.SmallTypes.ownedTupleIsFree (.ref z) >>= _) _ _ _
  refine wpAny_bind ?_
  unfold Builtin.SmallTypes.ownedTupleIsFree
  refine wpAny_bind (wpAny_field hz rfl (x := .none) rfl (wpAny_pure ?_))
  simp only [if_true]
  refine wpAny_bind (wpAny_rule ?_)
  refine wpAny_bind (wpAny_field hz rfl (x := .ref TO) rfl ?_)
  refine wpAny_bind (wpAny_setField_rec hz (by simp) fun h₁ hz₁ hs₁ => ?_)
  replace hz₁ : IsZip h₁ z TI TO .ellipsis := hz₁
  have m₁ : ∀ c o, c ≠ z → s.heap.get? c = some o → h₁.get? c = some o := fun c o n e => hs₁.extBut _ _ n e
  refine wpAny_bind ?_
  simp only [List.zipIdx_cons, List.zipIdx_nil, List.forIn_cons, List.forIn_nil]
  refine wpAny_bind (wpAny_bind (wpAny_onRaise ?_))
  show wpAny _ _ (Builtin.SmallTypes.nextOf (.ref i1) >>= _) _ _ _
  cases hx : xs[n1]? with
  | none =>
    refine wpAny_bind (next_k_end hh (h1.to fun o => m₁ _ o D.i1z) (hl1.to fun o => m₁ _ o D.l1z) hx fun h₂ e hs₂ he => ?_)
    obtain ⟨oe, hoe, hce⟩ := he
    have hz₂ : IsZip h₂ z TI TO .ellipsis := hs₂ _ _ D.i1z.symm hz₁
    have hez : e ≠ z := fun x => by subst x; rw [hz₂] at hoe; cases hoe; simp at hce
    refine wpAny_setField_rec hz₂ (by simp) fun h₃ _ hs₃ => hE h₃ e (fun c o c1 _ c3 _ x => hs₃.extBut _ _ c1 (hs₂ _ _ c3 (m₁ c o c1 x))) ⟨oe, hs₃.extBut _ _ hez hoe, hce⟩
  | some x =>
    have hy : ys[n2]? = none := by rcases hend with h | h; rw [hx] at h; cases h; exact h
    refine wpAny_bind (next_k (h1.to fun o => m₁ _ o D.i1z) (hl1.to fun o => m₁ _ o D.l1z) hx fun h₂ h1₂ hs₂ => wpAny_pure ?_)
    have m₂ : ∀ c o, c ≠ z → c ≠ i1 → s.heap.get? c = some o → h₂.get? c = some o := fun c o n n' e => hs₂.extBut _ _ n' (m₁ c o n e)
    have hTO₂ : IsPair h₂ TO a b := m₂ _ _ D.TOz D.TOi1 hTO
    refine wpAny_bind (wpAny_seqItems hTO₂ rfl ?_)
    refine wpAny_bind (wpAny_updateSeq_pair hTO₂ fun h₃ hTO₃ hs₃ => ?_)
    have m₃ : ∀ c o, c ≠ z → c ≠ i1 → c ≠ TO → s.heap.get? c = some o → h₃.get? c = some o := fun c o n n' n'' e => hs₃.extBut _ _ n'' (m₂ c o n n' e)
    refine wpAny_bind (wpAny_letGo (wpAny_pure ?_))
    refine wpAny_bind (wpAny_bind (wpAny_onRaise ?_))
    show wpAny _ _ (Builtin.SmallTypes.nextOf (.ref i2) >>= _) _ _ _
    refine wpAny_bind (next_k_end hh (h2.to fun o => m₃ _ o D.i2z D.i12.symm D.TOi2.symm) (hl2.to fun o => m₃ _ o D.l2z D.l2i1 D.l2TO) hy fun h₄ e hs₄ he => ?_)
    obtain ⟨oe, hoe, hce⟩ := he
    have hz₄ : IsZip h₄ z TI TO .ellipsis := hs₄ _ _ D.i2z.symm (hs₃.extBut _ _ D.TOz.symm (hs₂.extBut _ _ D.i1z.symm hz₁))
    have hez : e ≠ z := fun x => by subst x; rw [hz₄] at hoe; cases hoe; simp at hce
    refine wpAny_setField_rec hz₄ (by simp) fun h₅ _ hs₅ => hE h₅ e (fun c o c1 c2 c3 c4 x => hs₅.extBut _ _ c1 (hs₄ _ _ c4 (m₃ c o c1 c3 c2 x))) ⟨oe, hs₅.extBut _ _ hez hoe, hce⟩
theorem pyNext_zip {k1 k2 : Bool} {z TI TO i1 i2 l1 l2 : Addr} {n1 n2 : Nat} {xs ys : Array Value} {x y a b : Value} {Q : Option Value → Shared → Prop} (D : ZipApart z TI TO i1 i2 l1 l2)
    (hz : IsZip s.heap z TI TO .none) (hTI : IsPair s.heap TI (.ref i1) (.ref i2)) (hTO : IsPair s.heap TO a b)
    (h1 : ItK k1 s.heap i1 l1 n1) (h2 : ItK k2 s.heap i2 l2 n2) (hl1 : RawK k1 s.heap l1 xs) (hl2 : RawK k2 s.heap l2 ys) (hx : xs[n1]? = some x) (hy : ys[n2]? = some y)
    (hQ : ∀ h', IsZip h' z TI TO (rawInt s.heap.objs.size) → IsPair h' TO x y → ItK k1 h' i1 l1 (n1 + 1) → ItK k2 h' i2 l2 (n2 + 1) → IsPair h' s.heap.objs.size x y → h'.objs.size = s.heap.objs.size + 1 →
      (∀ c o, c ≠ z → c ≠ TO → c ≠ i1 → c ≠ i2 → s.heap.get? c = some o → h'.get? c = some o) → Q (some (.ref s.heap.objs.size)) { s with heap := h' }) :
    wpAny (model prog w) A (pyNext (.ref z)) Q E s := by
  have hT : s.TypeIs (.ref z) "zip" := ⟨_, hz, rfl⟩
  unfold pyNext
  exact wpAny_bind (wpAny_attempt (wpAny_callSpecial?_slot (name := Str.ofString "__next__") hT PySem.F.slot_zip_next
    (wpAny_call_entry PySem.F.slot_zip_next hT PySem.F.entry_zip_next
      (zip_item D hz hTI hTO h1 h2 hl1 hl2 hx hy fun h' a1 a2 a3 a4 a5 a6 a7 => wpAny_pure (hQ h' a1 a2 a3 a4 a5 a6 a7)) (PySem.F.args_zip_next_1 _))))
theorem pyNext_zip_end {k1 k2 : Bool} {z TI TO i1 i2 l1 l2 : Addr} {n1 n2 : Nat} {xs ys : Array Value} {a b : Value} {Q : Option Value → Shared → Prop} (hh : A.handled = none) (D : ZipApart z TI TO i1 i2 l1 l2)
    (hz : IsZip s.heap z TI TO .none) (hTI : IsPair s.heap TI (.ref i1) (.ref i2)) (hTO : IsPair s.heap TO a b)
    (h1 : ItK k1 s.heap i1 l1 n1) (h2 : ItK k2 s.heap i2 l2 n2) (hl1 : RawK k1 s.heap l1 xs) (hl2 : RawK k2 s.heap l2 ys) (hend : xs[n1]? = none ∨ ys[n2]? = none)
    (hQ : ∀ h', (∀ c o, c ≠ z → c ≠ TO → c ≠ i1 → c ≠ i2 → s.heap.get? c = some o → h'.get? c = some o) → Q none { s with heap := h' }) : wpAny (model prog w) A (pyNext (.ref z)) Q E s := by
  have hT : s.TypeIs (.ref z) "zip" := ⟨_, hz, rfl⟩
  unfold pyNext
  refine wpAny_bind (wpAny_attempt (wpAny_callSpecial?_slot (name := Str.ofString "__next__") hT PySem.F.slot_zip_next
    (wpAny_call_entry PySem.F.slot_zip_next hT PySem.F.entry_zip_next (zip_end hh D hz hTI hTO h1 h2 hl1 hl2 hend fun h' e hk he => ?_) (PySem.F.args_zip_next_1 _))))
  obtain ⟨o, ho, hc⟩ := he
  refine wpAny_bind (wpAny_isInstance (T := "StopIteration") (b := true) ⟨o, ho, hc⟩ isSubtype_stop ?_)
  exact wpAny_pure (hQ _ hk)
end
abbrev zH1 (a : String) (h : Heap) (l1 : Addr) : Heap := h.push { cls := .type a, data := .fields #[.ref l1, .int 0 0] }
abbrev zH2 (a b : String) (h : Heap) (l1 l2 : Addr) : Heap := (zH1 a h l1).push { cls := .type b, data := .fields #[.ref l2, .int 0 0] }
abbrev zH3 (a b : String) (h : Heap) (l1 l2 : Addr) : Heap := (zH2 a b h l1 l2).push { cls := .type "tuple", data := .seq #[.ref h.objs.size, .ref (zH1 a h l1).objs.size] }
abbrev zH4 (a b : String) (h : Heap) (l1 l2 : Addr) : Heap := (zH3 a b h l1 l2).push { cls := .type "tuple", data := .seq #[.none, .none] }
abbrev zH5 (a b : String) (h : Heap) (l1 l2 : Addr) : Heap := (zH4 a b h l1 l2).push { cls := .type "zip", data := .fields #[.none, .bool false, .bool false, .ref (zH2 a b h l1 l2).objs.size, .ref (zH3 a b h l1 l2).objs.size] }
theorem zip_newLL (l1 l2 : Addr) (xs ys : Array Value) :
    Meets (Builtin.«zip.__new__» ⟨[.type "zip", .ref l1, .ref l2], []⟩) (fun _ R s => s.heap.IsList l1 xs ∧ s.heap.IsList l2 ys ∧
      R (.ok (.ret (.ref (zH4 "list_iterator" "list_iterator" s.heap l1 l2).objs.size))) { s with heap := zH5 "list_iterator" "list_iterator" s.heap l1 l2 }) :=
  .of_wp fun prog w A R s h => by
    obtain ⟨hp, g, d, tk, os⟩ := s; obtain ⟨hl1, hl2, h⟩ := h
    have hsub := sub_zip
    have hL1 : Heap.IsList (Shared.heap ⟨hp, g, d, tk, os⟩) l1 xs := hl1
    have hL2 : Heap.IsList (Shared.heap ⟨hp.push { cls := .type "list_iterator", data := .fields #[.ref l1, .int 0 0] }, g, d, tk, os⟩) l2 ys := let ⟨o, e, r⟩ := hl2; ⟨o, Heap.get?_push_of_some _ e, r⟩
    wp_walk using wpAny_pyIter_list hL1, wpAny_pyIter_list hL2
    exact ⟨_, rfl, h⟩
theorem zip_newLT (l1 l2 : Addr) (xs ys : Array Value) :
    Meets (Builtin.«zip.__new__» ⟨[.type "zip", .ref l1, .ref l2], []⟩) (fun _ R s => s.heap.IsList l1 xs ∧ s.heap.IsTuple l2 ys ∧
      R (.ok (.ret (.ref (zH4 "list_iterator" "tuple_iterator" s.heap l1 l2).objs.size))) { s with heap := zH5 "list_iterator" "tuple_iterator" s.heap l1 l2 }) :=
  .of_wp fun prog w A R s h => by
    obtain ⟨hp, g, d, tk, os⟩ := s; obtain ⟨hl1, hl2, h⟩ := h
    have hsub := sub_zip
    have hL1 : Heap.IsList (Shared.heap ⟨hp, g, d, tk, os⟩) l1 xs := hl1
    have hL2 : Heap.IsTuple (Shared.heap ⟨hp.push { cls := .type "list_iterator", data := .fields #[.ref l1, .int 0 0] }, g, d, tk, os⟩) l2 ys := let ⟨o, e, r⟩ := hl2; ⟨o, Heap.get?_push_of_some _ e, r⟩
    wp_walk using wpAny_pyIter_list hL1, wpAny_pyIter_tuple hL2
    exact ⟨_, rfl, h⟩
theorem zip_newTL (l1 l2 : Addr) (xs ys : Array Value) :
    Meets (Builtin.«zip.__new__» ⟨[.type "zip", .ref l1, .ref l2], []⟩) (fun _ R s => s.heap.IsTuple l1 xs ∧ s.heap.IsList l2 ys ∧
      R (.ok (.ret (.ref (zH4 "tuple_iterator" "list_iterator" s.heap l1 l2).objs.size))) { s with heap := zH5 "tuple_iterator" "list_iterator" s.heap l1 l2 }) :=
  .of_wp fun prog w A R s h => by
    obtain ⟨hp, g, d, tk, os⟩ := s; obtain ⟨hl1, hl2, h⟩ := h
    have hsub := sub_zip
    have hL1 : Heap.IsTuple (Shared.heap ⟨hp, g, d, tk, os⟩) l1 xs := hl1
    have hL2 : Heap.IsList (Shared.heap ⟨hp.push { cls := .type "tuple_iterator", data := .fields #[.ref l1, .int 0 0] }, g, d, tk, os⟩) l2 ys := let ⟨o, e, r⟩ := hl2; ⟨o, Heap.get?_push_of_some _ e, r⟩
    wp_walk using wpAny_pyIter_tuple hL1, wpAny_pyIter_list hL2
    exact ⟨_, rfl, h⟩
theorem zip_newTT (l1 l2 : Addr) (xs ys : Array Value) :
    Meets (Builtin.«zip.__new__» ⟨[.type "zip", .ref l1, .ref l2], []⟩) (fun _ R s => s.heap.IsTuple l1 xs ∧ s.heap.IsTuple l2 ys ∧
      R (.ok (.ret (.ref (zH4 "tuple_iterator" "tuple_iterator" s.heap l1 l2).objs.size))) { s with heap := zH5 "tuple_iterator" "tuple_iterator" s.heap l1 l2 }) :=
  .of_wp fun prog w A R s h => by
    obtain ⟨hp, g, d, tk, os⟩ := s; obtain ⟨hl1, hl2, h⟩ := h
    have hsub := sub_zip
    have hL1 : Heap.IsTuple (Shared.heap ⟨hp, g, d, tk, os⟩) l1 xs := hl1
    have hL2 : Heap.IsTuple (Shared.heap ⟨hp.push { cls := .type "tuple_iterator", data := .fields #[.ref l1, .int 0 0] }, g, d, tk, os⟩) l2 ys := let ⟨o, e, r⟩ := hl2; ⟨o, Heap.get?_push_of_some _ e, r⟩
    wp_walk using wpAny_pyIter_tuple hL1, wpAny_pyIter_tuple hL2
    exact ⟨_, rfl, h⟩
theorem zip_newK (k1 k2 : Bool) (l1 l2 : Addr) (xs ys : Array Value) :
    Meets (Builtin.«zip.__new__» ⟨[.type "zip", .ref l1, .ref l2], []⟩) (fun _ R s => RawK k1 s.heap l1 xs ∧ RawK k2 s.heap l2 ys ∧
      R (.ok (.ret (.ref (zH4 (itn k1) (itn k2) s.heap l1 l2).objs.size))) { s with heap := zH5 (itn k1) (itn k2) s.heap l1 l2 }) := by
  cases k1 <;> cases k2
  · exact zip_newLL l1 l2 xs ys
  · exact zip_newLT l1 l2 xs ys
  · exact zip_newTL l1 l2 xs ys
  · exact zip_newTT l1 l2 xs ys
section
variable {prog : Program} {w : World} {A : Around} {E : Value → Shared → Prop} {s : Shared}
theorem call_zip {k1 k2 : Bool} {l1 l2 : Addr} {xs ys : Array Value} {Q : Value → Shared → Prop} (hl1 : RawK k1 s.heap l1 xs) (hl2 : RawK k2 s.heap l2 ys)
    (h : ∀ h', IsZip h' (s.heap.objs.size + 4) (s.heap.objs.size + 2) (s.heap.objs.size + 3) .none → IsPair h' (s.heap.objs.size + 2) (.ref s.heap.objs.size) (.ref (s.heap.objs.size + 1)) →
      IsPair h' (s.heap.objs.size + 3) .none .none → ItK k1 h' s.heap.objs.size l1 0 → ItK k2 h' (s.heap.objs.size + 1) l2 0 → h'.objs.size = s.heap.objs.size + 5 →
      (∀ c o, s.heap.get? c = some o → h'.get? c = some o) → Q (.ref (s.heap.objs.size + 4)) { s with heap := h' }) :
    wpAny (model prog w) A (call (.type "zip") [.ref l1, .ref l2]) Q E s := by
  refine callType_new PySem.F.called_zip (by decide) (PySem.F.typeCall_zip_2 _ _) (PySem.F.newCall_zip_2 _ _) (fun obj => PySem.F.args_object_init_3 obj _ _) PySem.F.entry_zip_new
    (zip_newK k1 k2 l1 l2 xs ys) ⟨hl1, hl2, ?_⟩
  generalize ea : itn k1 = a
  generalize eb : itn k2 = b
  have z1 : (zH1 a s.heap l1).objs.size = s.heap.objs.size + 1 := Heap.size_push ..
  have z2 : (zH2 a b s.heap l1 l2).objs.size = s.heap.objs.size + 2 := by rw [Heap.size_push, z1]
  have z3 : (zH3 a b s.heap l1 l2).objs.size = s.heap.objs.size + 3 := by rw [Heap.size_push, z2]
  have z4 : (zH4 a b s.heap l1 l2).objs.size = s.heap.objs.size + 4 := by rw [Heap.size_push, z3]
  have z5 : (zH5 a b s.heap l1 l2).objs.size = s.heap.objs.size + 5 := by rw [Heap.size_push, z4]
  have g5 : (zH5 a b s.heap l1 l2).get? (zH4 a b s.heap l1 l2).objs.size = some _ := Heap.get?_push_size _ rfl
  have g4 : (zH5 a b s.heap l1 l2).get? (zH3 a b s.heap l1 l2).objs.size = some _ := Heap.get?_push_of_some _ (Heap.get?_push_size _ rfl)
  have g3 : (zH5 a b s.heap l1 l2).get? (zH2 a b s.heap l1 l2).objs.size = some _ := Heap.get?_push_of_some _ (Heap.get?_push_of_some _ (Heap.get?_push_size _ rfl))
  have g2 : (zH5 a b s.heap l1 l2).get? (zH1 a s.heap l1).objs.size = some _ := Heap.get?_push_of_some _ (Heap.get?_push_of_some _ (Heap.get?_push_of_some _ (Heap.get?_push_size _ rfl)))
  have g1 : (zH5 a b s.heap l1 l2).get? s.heap.objs.size = some _ := Heap.get?_push_of_some _ (Heap.get?_push_of_some _ (Heap.get?_push_of_some _ (Heap.get?_push_of_some _ (Heap.get?_push_size _ rfl))))
  show _ ∧ _
  rw [z2, z3, z4] at g5
  rw [z1, z2] at g3
  rw [z3] at g4
  rw [z1] at g2
  rw [z4]
  subst ea eb
  exact ⟨⟨_, g5, rfl⟩, h _ g5 g3 g4 (.mk g1) (.mk g2) z5 fun c o x =>
    Heap.get?_push_of_some _ (Heap.get?_push_of_some _ (Heap.get?_push_of_some _ (Heap.get?_push_of_some _ (Heap.get?_push_of_some _ x))))⟩
end
end Dt
namespace L2
open PySem PySem.Spec PyProof.Rows
theorem bt_zip : bootBuiltins "zip" = some (.type "zip") := by decide +kernel
def SqK (k : Bool) (K : PySem.W.Frag) (H : Hp) (a : Addr) (xs : List V) : Prop := match k with | true => SqT K H a xs | false => SqL K H a xs
theorem Inv.sqK {X : Cx} {pins : List (Addr × Obj)} {σ : St} {H : Hp} {s : Shared} {k : Bool} {a : Addr} {xs : List V} (I : Inv X pins σ H s) (h : SqK k X.K H a xs) : ∃ its : List Value, Vals xs its ∧ Dt.RawK k s.heap a its.toArray := by
  cases k
  · obtain ⟨its, r, p, _⟩ := I.list h
    exact ⟨its, r, p.isList⟩
  · obtain ⟨its, r, p, _⟩ := I.tuple h
    exact ⟨its, r, p⟩
theorem Inv.sqK_inj {X : Cx} {pins : List (Addr × Obj)} {σ : St} {H : Hp} {s : Shared} {k : Bool} {a : Addr} {xs ys : List V} (I : Inv X pins σ H s) (h : SqK k X.K H a xs) (h' : SqK k X.K H a ys) : xs = ys := by
  cases k
  · exact I.list_inj h h'
  · exact I.tuple_inj h h'
theorem Same.sqK {k : Bool} {K : PySem.W.Frag} {H H' : Hp} {a : Addr} {xs : List V} (e : Same H H') (h : SqK k K H a xs) : SqK k K H' a xs := by
  cases k
  · exact e.seq h
  · exact e.seqT h
def Itz (K : PySem.W.Frag) (k1 k2 : Bool) (a b : Addr) : It :=
  ⟨fun i H => ∃ xs ys x y, SqK k1 K H a xs ∧ SqK k2 K H b ys ∧ xs[i]? = some x ∧ ys[i]? = some y,
   fun i H v H' => ∃ p x y, H p = none ∧ v = .ref p ∧ H' = upd H p (.tup [x, y]) ∧ (∀ xs, SqK k1 K H a xs → xs[i]? = some x) ∧ ∀ ys, SqK k2 K H b ys → ys[i]? = some y,
   fun i H => ∃ xs ys, SqK k1 K H a xs ∧ SqK k2 K H b ys ∧ (xs.length ≤ i ∨ ys.length ≤ i)⟩
theorem turn_zip {P : Program} {w : World} {K : PySem.W.Frag} {elts : List Expr} {x1 : Nat} {pos : Pos} (k1 k2 : Bool) {z TI TO i1 i2 l1 l2 : Addr} (D : ZipApart z TI TO i1 i2 l1 l2) :
    Turn P w K (.Tuple elts x1 pos) (Itz K k1 k2 l1 l2) [z, TI, TO, i1, i2] z (fun i h => IsZip h z TI TO .none ∧ IsPair h TI (.ref i1) (.ref i2) ∧ (∃ a b, IsPair h TO a b) ∧ Dt.ItK k1 h i1 l1 i ∧ Dt.ItK k2 h i2 l2 i) where
  mem := by simp
  obj := fun i h st b hb => by
    obtain ⟨hz, hTI, ⟨a, c, hTO⟩, h1, h2⟩ := st
    have hb' : b = z ∨ b = TI ∨ b = TO ∨ b = i1 ∨ b = i2 := by simpa using hb
    rcases hb' with rfl | rfl | rfl | rfl | rfl
    · exact ⟨_, hz, fun v z => nomatch z⟩
    · exact ⟨_, hTI, fun v z => nomatch z⟩
    · exact ⟨_, hTO, fun v z => nomatch z⟩
    · exact h1.obj
    · exact h2.obj
  keep := fun i h h' st k => by
    obtain ⟨hz, hTI, ⟨a, c, hTO⟩, h1, h2⟩ := st
    exact ⟨k z (by simp) _ hz, k TI (by simp) _ hTI, ⟨a, c, k TO (by simp) _ hTO⟩, h1.to (k i1 (by simp)), h2.to (k i2 (by simp))⟩
  item := by
    intro X hP hw hK hc i pins s σ H E I hf st hg
    subst hP hw hK
    obtain ⟨hz, hTI, ⟨a, c, hTO⟩, h1, h2⟩ := st
    obtain ⟨xs, ys, x, y, hq1, hq2, hx, hy⟩ := hg
    obtain ⟨is1, rv1, p1⟩ := I.sqK hq1
    obtain ⟨is2, rv2, p2⟩ := I.sqK hq2
    obtain ⟨u, hu, ru⟩ := rv1.get hx
    obtain ⟨v, hv, rv⟩ := rv2.get hy
    refine Dt.pyNext_zip D hz hTI hTO h1 h2 p1 p2 (x := u) (y := v) (by simpa using hu) (by simpa using hv) fun h' a1 a2 a3 a4 a5 a6 hk' => ?_
    refine ⟨_, rfl, wpAny_letOwnedTupleGo_zip (s := { s with heap := h' }) a1 fun h3 hz3 sb3 => ?_⟩
    have nn : H s.heap.objs.size = none := I.hok.fresh (Nat.le_refl _)
    have keep : ∀ b o, b ≠ z → b ≠ TO → b ≠ i1 → b ≠ i2 → s.heap.get? b = some o → h3.get? b = some o := fun b o n1 n2 n3 n4 q => (sb3.2 b n1).trans (hk' b o n1 n2 n3 n4 q)
    have nt : ∀ b u, H b = some u → b ≠ z ∧ b ≠ TO ∧ b ≠ i1 ∧ b ≠ i2 := fun b u q => ⟨(fun e => by rw [e, (hf z (by simp)).1] at q; cases q), (fun e => by rw [e, (hf TO (by simp)).1] at q; cases q), (fun e => by rw [e, (hf i1 (by simp)).1] at q; cases q), (fun e => by rw [e, (hf i2 (by simp)).1] at q; cases q)⟩
    have mem2 : ∀ b, b ∉ [z, TO, i1, i2] → b ≠ z ∧ b ≠ TO ∧ b ≠ i1 ∧ b ≠ i2 := fun b hb => by simpa using hb
    have kp : ∀ b o, b ∉ [z, TO, i1, i2] → s.heap.get? b = some o → h3.get? b = some o := fun b o hb q => keep b o (mem2 b hb).1 (mem2 b hb).2.1 (mem2 b hb).2.2.1 (mem2 b hb).2.2.2 q
    have I1 : Inv X pins σ H { s with heap := h3 } := by
      refine I.step (g' := s.gens) (d' := s.drawn) (t' := s.toks) (ch := [z, TO, i1, i2]) (fun b hb => ?_) (fun b o _ _ hc q _ => kp b o hc q) (fun b o _ _ hc q _ => ⟨o.slots, kp b o hc q⟩) (fun _ _ _ _ n => n)
        (fun b o hc q => ⟨o, kp b o hc q⟩) (fun _ _ q => q) (fun _ _ _ q => q) (fun b ps q => ⟨#[], by rw [q]; simp⟩) (fun m hm => ?_) (fun b u q => ?_) I.bare
      · have hb2 : b ∈ [z, TI, TO, i1, i2] := by
          have hb' : b = z ∨ b = TO ∨ b = i1 ∨ b = i2 := by simpa using hb
          rcases hb' with rfl | rfl | rfl | rfl <;> simp
        have fb := hf b hb2
        exact ⟨fb.2.2.2.1, fb.2.1, fb.2.2.2.2.1, fb.2.2.2.2.2⟩
      · obtain ⟨o, es, ep, ho, r⟩ := hm
        exact ⟨o, es, ep, keep _ o (Ne.symm (hf z (by simp)).2.1) (Ne.symm (hf TO (by simp)).2.1) (Ne.symm (hf i1 (by simp)).2.1) (Ne.symm (hf i2 (by simp)).2.1) ho, r⟩
      · refine (I.hok b u q).stay (fun c v hc q' => ?_) (fun _ q' => q') fun _ _ q' => q'
        rcases hc with e | e
        · rw [e] at q' ⊢
          obtain ⟨n1, n2, n3, n4⟩ := nt b u q
          exact keep _ v n1 n2 n3 n4 q'
        · obtain ⟨n1, n2, n3, n4⟩ := nt c _ e
          exact keep _ v n1 n2 n3 n4 q'
    have hzl : z < s.heap.objs.size := Heap.lt_size hz
    have ht2 : h3.get? s.heap.objs.size = some { cls := .type "tuple", data := .seq #[u, v] } := (sb3.2 _ (Nat.ne_of_gt hzl)).trans a5
    have I2 : Inv X pins σ (upd H s.heap.objs.size (.tup [x, y])) { s with heap := h3 } :=
      I.later (Heap.get?_none_of_le (Nat.le_refl _)) I1 nn ⟨(by show 2 ≤ sizeLine; decide), [u, v], .cons ru (.cons rv .nil), _, ht2, ⟨rfl, rfl⟩, 0, rfl⟩
    refine ⟨.ref s.heap.objs.size, _, I2, rfl, ⟨s.heap.objs.size, x, y, nn, rfl, rfl, fun xs' h' => by rw [I.sqK_inj h' hq1]; exact hx, fun ys' h' => by rw [I.sqK_inj h' hq2]; exact hy⟩,
      ⟨hz3, (sb3.2 _ D.TIz).trans (hk' _ _ D.TIz D.TITO D.TIi1 D.TIi2 hTI), ⟨u, v, (sb3.2 _ D.TOz).trans a2⟩, a3.to fun o e => (sb3.2 _ D.i1z).trans e, a4.to fun o e => (sb3.2 _ D.i2z).trans e⟩, fun b hb => ?_⟩
    have hlt : b < s.heap.objs.size := by
      have hb' : b = z ∨ b = TI ∨ b = TO ∨ b = i1 ∨ b = i2 := by simpa using hb
      rcases hb' with rfl | rfl | rfl | rfl | rfl
      · exact hzl
      · exact Heap.lt_size hTI
      · exact Heap.lt_size hTO
      · obtain ⟨o, e, _⟩ := h1.obj; exact Heap.lt_size e
      · obtain ⟨o, e, _⟩ := h2.obj; exact Heap.lt_size e
    rw [upd_ne (Nat.ne_of_lt hlt)]
    exact (hf b hb).1
  done := by
    intro X hP hw hK hc i pins s σ H E I hf st hg
    subst hP hw hK
    obtain ⟨hz, hTI, ⟨a, c, hTO⟩, h1, h2⟩ := st
    obtain ⟨xs, ys, hq1, hq2, hend⟩ := hg
    obtain ⟨is1, rv1, p1⟩ := I.sqK hq1
    obtain ⟨is2, rv2, p2⟩ := I.sqK hq2
    have e1 := rv1.length
    have e2 := rv2.length
    refine Dt.pyNext_zip_end (I.ok.hd hc) D hz hTI hTO h1 h2 p1 p2 ?_ fun h' hk' => ⟨rfl, ?_⟩
    · rcases hend with h | h
      · exact .inl (by rw [Array.getElem?_eq_none_iff, List.size_toArray]; omega)
      · exact .inr (by rw [Array.getElem?_eq_none_iff, List.size_toArray]; omega)
    have nt : ∀ b u, H b = some u → b ≠ z ∧ b ≠ TO ∧ b ≠ i1 ∧ b ≠ i2 := fun b u q => ⟨(fun e => by rw [e, (hf z (by simp)).1] at q; cases q), (fun e => by rw [e, (hf TO (by simp)).1] at q; cases q), (fun e => by rw [e, (hf i1 (by simp)).1] at q; cases q), (fun e => by rw [e, (hf i2 (by simp)).1] at q; cases q)⟩
    have mem2 : ∀ b, b ∉ [z, TO, i1, i2] → b ≠ z ∧ b ≠ TO ∧ b ≠ i1 ∧ b ≠ i2 := fun b hb => by simpa using hb
    have kp : ∀ b o, b ∉ [z, TO, i1, i2] → s.heap.get? b = some o → h'.get? b = some o := fun b o hb q => hk' b o (mem2 b hb).1 (mem2 b hb).2.1 (mem2 b hb).2.2.1 (mem2 b hb).2.2.2 q
    refine I.step (g' := s.gens) (d' := s.drawn) (t' := s.toks) (ch := [z, TO, i1, i2]) (fun b hb => ?_) (fun b o _ _ hc q _ => kp b o hc q) (fun b o _ _ hc q _ => ⟨o.slots, kp b o hc q⟩) (fun _ _ _ _ n => n)
      (fun b o hc q => ⟨o, kp b o hc q⟩) (fun _ _ q => q) (fun _ _ _ q => q) (fun b ps q => ⟨#[], by rw [q]; simp⟩) (fun m hm => ?_) (fun b u q => ?_) I.bare
    · have hb2 : b ∈ [z, TI, TO, i1, i2] := by
        have hb' : b = z ∨ b = TO ∨ b = i1 ∨ b = i2 := by simpa using hb
        rcases hb' with rfl | rfl | rfl | rfl <;> simp
      have fb := hf b hb2
      exact ⟨fb.2.2.2.1, fb.2.1, fb.2.2.2.2.1, fb.2.2.2.2.2⟩
    · obtain ⟨o, es, ep, ho, r⟩ := hm
      exact ⟨o, es, ep, hk' _ o (Ne.symm (hf z (by simp)).2.1) (Ne.symm (hf TO (by simp)).2.1) (Ne.symm (hf i1 (by simp)).2.1) (Ne.symm (hf i2 (by simp)).2.1) ho, r⟩
    · refine (I.hok b u q).stay (fun c v hc q' => ?_) (fun _ q' => q') fun _ _ q' => q'
      rcases hc with e | e
      · rw [e] at q' ⊢
        obtain ⟨n1, n2, n3, n4⟩ := nt b u q
        exact hk' _ v n1 n2 n3 n4 q'
      · obtain ⟨n1, n2, n3, n4⟩ := nt c _ e
        exact hk' _ v n1 n2 n3 n4 q'
  self := fun _ _ _ _ _ st h => wpAny_pyIter_zip st.1 h
def iZip (K : PySem.W.Frag) (k1 k2 : Bool) (ta : TA) : TI := fun σ H R => ta σ H fun vs H1 => ∃ a b, vs = [.ref a, .ref b] ∧ (∃ xs, SqK k1 K H1 a xs) ∧ (∃ ys, SqK k2 K H1 b ys) ∧ R (Itz K k1 k2 a b) H1
theorem pi_zip {X : Cx} (k1 k2 : Bool) {elts : List Expr} {x1 : Nat} {tpos : Pos} {a b : Expr} {ta : TA} {p pos : Pos} (hg : Gl X "zip") (hm : X.mg "zip" = none) (ha : PA X [a, b] ta) (hs : starEach [a, b] X.env = (false, eval a X.env) :: starEach [b] X.env := by rfl) (hp : (backTo pos (starEach [b] X.env)).any (·.1) = false := by rfl) :
    PI X (.Tuple elts x1 tpos) (.Call (.Name "zip" p) [a, b] [] pos) (iZip X.K k1 k2 ta) := by
  intro pins s σ H R I h
  refine Call_ (ld_blt I hg hm bt_zip (PyProof.Rows.callWith_type1 (thn (ha pos pins s σ H _ I h) fun us s1 ⟨vs, H1, I1, r1, q1⟩ => ?_) hs hp))
  obtain ⟨l1, l2, e, ⟨xs, hq1⟩, ⟨ys, hq2⟩, q⟩ := q1
  subst e
  obtain ⟨u, v, rfl, rx, ry⟩ := vals2 r1
  cases (show u = Value.ref l1 from rx)
  cases (show v = Value.ref l2 from ry)
  obtain ⟨is1, rv1, p1⟩ := I1.sqK hq1
  obtain ⟨is2, rv2, p2⟩ := I1.sqK hq2
  refine Dt.call_zip p1 p2 fun h' hz hTI hTO it1 it2 hsz hk => ?_
  refine wpAny_pyIter_zip hz ?_
  have I2 : Inv X pins σ H1 { s1 with heap := h' } := I1.kept (t' := s1.toks) hk
  have n1 : l1 < s1.heap.objs.size := p1.lt
  have n2 : l2 < s1.heap.objs.size := p2.lt
  have D : ZipApart (s1.heap.objs.size + 4) (s1.heap.objs.size + 2) (s1.heap.objs.size + 3) s1.heap.objs.size (s1.heap.objs.size + 1) l1 l2 := by
    constructor <;> (intro e; simp only [Addr] at *; omega)
  refine ⟨_, _, _, _, H1, rfl, I2, turn_zip k1 k2 D, ⟨hz, hTI, ⟨_, _, hTO⟩, it1, it2⟩, fun b hb => ?_, q⟩
  have ge : s1.heap.objs.size ≤ b := by
    have hb' : b = s1.heap.objs.size + 4 ∨ b = s1.heap.objs.size + 2 ∨ b = s1.heap.objs.size + 3 ∨ b = s1.heap.objs.size ∨ b = s1.heap.objs.size + 1 := by simpa using hb
    rcases hb' with rfl | rfl | rfl | rfl | rfl
    · exact Nat.le_add_right ..
    · exact Nat.le_add_right ..
    · exact Nat.le_add_right ..
    · exact Nat.le_refl _
    · exact Nat.le_add_right ..
  exact I1.fpOk ge (I1.hok.fresh ge)
theorem for_zip {K : PySem.W.Frag} {k1 k2 : Bool} {a b : Addr} {xs ys : List V} {g : TG} {tb : TS} {D : Ends} {σ : St} {H : Hp} (Pv : Nat → St → Hp → Prop) (hlen : xs.length = ys.length) (h0 : Pv 0 σ H)
    (hl : ∀ i σ H, i ≤ xs.length → Pv i σ H → SqK k1 K H a xs ∧ SqK k2 K H b ys)
    (hs : ∀ i x y σ H, xs[i]? = some x → ys[i]? = some y → Pv i σ H → ∀ p, H p = none → g (.ref p) σ (upd H p (.tup [x, y])) fun σ2 H2 => tb { D with nx := Pv (i + 1), ct := Pv (i + 1), bk := D.nx } σ2 H2) (hd : ∀ σ H, Pv xs.length σ H → D.nx σ H) :
    ∃ W : Nat → Nat → St → Hp → Prop, (∃ m, W 0 m σ H) ∧ ∀ i m σ H, W i m σ H →
      ((Itz K k1 k2 a b).stop i H ∧ D.nx σ H) ∨ ((Itz K k1 k2 a b).go i H ∧ ∃ N : St → Hp → Prop, (∀ σ' H', N σ' H' → ∃ m', m' < m ∧ W (i + 1) m' σ' H') ∧ ∀ x H', (Itz K k1 k2 a b).yld i H x H' → g x σ H' fun σ2 H2 => tb { D with nx := N, ct := N, bk := D.nx } σ2 H2) := by
  refine ⟨fun i m σ H => m = xs.length - i ∧ i ≤ xs.length ∧ Pv i σ H, ⟨_, rfl, Nat.zero_le _, h0⟩, fun i m σ H ⟨hm, hi, p⟩ => ?_⟩
  obtain ⟨q1, q2⟩ := hl i σ H hi p
  by_cases hlt : i < xs.length
  · have e1 := List.getElem?_eq_getElem hlt
    have e2 := List.getElem?_eq_getElem (l := ys) (i := i) (by omega)
    refine .inr ⟨⟨xs, ys, _, _, q1, q2, e1, e2⟩, Pv (i + 1), fun σ' H' p' => ⟨xs.length - (i + 1), by omega, rfl, hlt, p'⟩, fun v H' y => ?_⟩
    obtain ⟨q, x, y', hq, rfl, rfl, hx, hy⟩ := y
    exact hs i x y' σ H (hx xs q1) (hy ys q2) p q hq
  · have : i = xs.length := by omega
    subst this
    exact .inl ⟨⟨xs, ys, q1, q2, .inl (Nat.le_refl _)⟩, hd σ H p⟩
theorem comp_any {J : It} {n : Nat} {g : TG} {ti : TT} {te : TE} {Fi : Hp → Prop} {σ1 : St} {H1 : Hp} {D : Addr} (hD : H1 D = none) (hz : n < sizeLine)
    (hgo : ∀ (i : Nat) H', Same H1 H' → i < n → J.go i H') (hst : ∀ H', Same H1 H' → J.stop n H')
    (Pv : Nat → List V → St → Hp → Prop) (h0 : Pv 0 [] σ1 H1)
    (hs : ∀ i ys σ H' x H2, i < n → J.yld i H' x H2 → Pv i ys σ (hid D H') → H' D = some (.lst ys) → Same H1 (hid D H') → Same H1 H' → ∀ (Ry : St → V → Hp → Prop) (Rn : St → Hp → Prop),
      (∀ σ2 y H5, Same H' H5 → Pv (i + 1) (ys ++ [y]) σ2 (hid D H5) → Ry σ2 y H5) → (∀ σ2 H4, Same H' H4 → Pv (i + 1) ys σ2 (hid D H4) → Rn σ2 H4) →
      g x σ H2 fun σ2 H3 => ti σ2 H3 fun b H4 => if b = true then te σ2 H4 fun y H5 => Ry σ2 y H5 else Rn σ2 H4)
    (hd : ∀ ys σ H', Pv n ys σ (hid D H') → H' D = some (.lst ys) → Same H1 (hid D H') → Fi H') :
    ∃ W : Nat → Nat → St → Hp → Prop, (∃ m, W 0 m σ1 (upd H1 D (.lst []))) ∧ ∀ i m σ' H', W i m σ' H' →
      (J.stop i H' ∧ Fi H') ∨ (J.go i H' ∧ ∀ x H2, J.yld i H' x H2 → g x σ' H2 fun σ2 H3 => ti σ2 H3 fun b H4 => if b = true then te σ2 H4 fun y H5 => ∃ ys, H5 D = some (.lst ys) ∧ ys.length < sizeLine ∧ ∃ m', m' < m ∧ W (i + 1) m' σ2 (upd H5 D (.lst (ys ++ [y])))
        else ∃ m', m' < m ∧ W (i + 1) m' σ2 H4) := by
  refine ⟨fun i m σ H' => m = n - i ∧ i ≤ n ∧ ∃ ys, ys.length ≤ i ∧ H' D = some (.lst ys) ∧ Same H1 (hid D H') ∧ Pv i ys σ (hid D H'), ⟨n, by simp, Nat.zero_le _, [], Nat.le_refl _, upd_same, ?_, ?_⟩, ?_⟩
  · rw [hid_upd, hid_none hD]; exact fun _ _ e => e
  · rw [hid_upd, hid_none hD]; exact h0
  rintro i m σ H' ⟨rfl, hi, ys, hl, eD, sm, p⟩
  have sm' : Same H1 H' := fun b o e => hid_le b o (sm b o e)
  by_cases hlt : i < n
  · refine .inr ⟨hgo i H' sm' hlt, fun x H2 y => ?_⟩
    refine hs i ys σ H' x H2 hlt y p eD sm sm' _ _ (fun σ2 y H5 s5 p5 => ?_) (fun σ2 H4 s4 p4 => ?_)
    · refine ⟨ys, s5 _ _ eD, by omega, n - (i + 1), by omega, rfl, hlt, ys ++ [y], by rw [List.length_append, List.length_singleton]; omega, upd_same, ?_, ?_⟩
      · rw [hid_upd]; exact fun b o e => hid_same s5 b o (sm b o e)
      · rw [hid_upd]; exact p5
    · exact ⟨n - (i + 1), by omega, rfl, hlt, ys, by omega, s4 _ _ eD, fun b o e => hid_same s4 b o (sm b o e), p4⟩
  · have e : i = n := by omega
    subst e
    exact .inl ⟨hst H' sm', hd ys σ H' p eD sm⟩
theorem comp_zip {K : PySem.W.Frag} {k1 k2 : Bool} {a b : Addr} {xs ys : List V} {g : TG} {ti : TT} {te : TE} {Fi : Hp → Prop} {σ1 : St} {H1 : Hp} {D : Addr} (hD : H1 D = none) (hz : xs.length < sizeLine) (hlen : xs.length = ys.length)
    (q1 : SqK k1 K H1 a xs) (q2 : SqK k2 K H1 b ys) (Pv : Nat → List V → St → Hp → Prop) (h0 : Pv 0 [] σ1 H1)
    (hs : ∀ i x y ls σ H' p, xs[i]? = some x → ys[i]? = some y → Pv i ls σ (hid D H') → H' D = some (.lst ls) → Same H1 (hid D H') → H' p = none → ∀ (Ry : St → V → Hp → Prop) (Rn : St → Hp → Prop),
      (∀ σ2 z H5, Same H' H5 → Pv (i + 1) (ls ++ [z]) σ2 (hid D H5) → Ry σ2 z H5) → (∀ σ2 H4, Same H' H4 → Pv (i + 1) ls σ2 (hid D H4) → Rn σ2 H4) →
      g (.ref p) σ (upd H' p (.tup [x, y])) fun σ2 H3 => ti σ2 H3 fun b H4 => if b = true then te σ2 H4 fun y H5 => Ry σ2 y H5 else Rn σ2 H4)
    (hd : ∀ ls σ H', Pv xs.length ls σ (hid D H') → H' D = some (.lst ls) → Same H1 (hid D H') → Fi H') :
    ∃ W : Nat → Nat → St → Hp → Prop, (∃ m, W 0 m σ1 (upd H1 D (.lst []))) ∧ ∀ i m σ' H', W i m σ' H' →
      ((Itz K k1 k2 a b).stop i H' ∧ Fi H') ∨ ((Itz K k1 k2 a b).go i H' ∧ ∀ x H2, (Itz K k1 k2 a b).yld i H' x H2 → g x σ' H2 fun σ2 H3 => ti σ2 H3 fun b H4 => if b = true then te σ2 H4 fun y H5 => ∃ ys, H5 D = some (.lst ys) ∧ ys.length < sizeLine ∧ ∃ m', m' < m ∧ W (i + 1) m' σ2 (upd H5 D (.lst (ys ++ [y])))
        else ∃ m', m' < m ∧ W (i + 1) m' σ2 H4) := by
  refine comp_any hD hz (fun i H' s hi => ⟨xs, ys, _, _, s.sqK q1, s.sqK q2, List.getElem?_eq_getElem hi, List.getElem?_eq_getElem (by omega)⟩) (fun H' s => ⟨xs, ys, s.sqK q1, s.sqK q2, .inl (Nat.le_refl _)⟩) Pv h0 (fun i ls σ H' x H2 hi y p e s s' Ry Rn r1 r2 => ?_) hd
  obtain ⟨q, u, v, hq, rfl, rfl, hx, hy⟩ := y
  exact hs i u v ls σ H' q (hx xs (s'.sqK q1)) (hy ys (s'.sqK q2)) p e s hq Ry Rn r1 r2
end L2


set_option Elab.async false
set_option linter.all false
set_option maxRecDepth 100000
set_option maxHeartbeats 4000000
namespace Pw
open PySem L2
seal PE PT PW PA PS PSs PG PGs PI PIf PO PJ
def top (i : Nat) : Stmt := PySem.Challenge.pw_planwell_k27_answers_in_rows.main.body.getD i (.Pass ⟨0, 0, 0, 0⟩)
abbrev s_greatest_divisor : Stmt := top 5
abbrev s_fraction : Stmt := top 6
abbrev s_plus : Stmt := top 7
abbrev s_times : Stmt := top 8
abbrev s_shown : Stmt := top 9
abbrev s_worth : Stmt := top 11
abbrev s_worth_of : Stmt := top 13
abbrev s_pairs_at : Stmt := top 14
abbrev s_answer_rows : Stmt := top 16
abbrev s_value_row : Stmt := top 17
abbrev s_lat : Stmt := top 19
abbrev s_mixed : Stmt := top 20
abbrev s_lesser : Stmt := top 21
abbrev s_lfrac : Stmt := top 22
abbrev s_labels : Stmt := top 23
abbrev s_lpairs : Stmt := top 24
abbrev s_plan : Stmt := top 25
abbrev s_fracs : Stmt := top 26
abbrev s_ntext : Stmt := top 27
abbrev s_tree : Stmt := top 28
abbrev s_outcome : Stmt := top 29
abbrev s_lworth : Stmt := top 30
abbrev s_law : Stmt := top 31
structure DefAt (K : PySem.W.Frag) (mg : Str → Option Value) (x : Str) (st : Stmt) (f : Addr) (fd : FuncData) (ps : List Str) : Prop where
  F : Fun K x x st f fd
  b : Binds K fd ps []
  m : mg x = some (.ref f)
structure Blt (mg : Str → Option Value) : Prop where
  isinstance : mg "isinstance" = none
  int : mg "int" = none
  bool : mg "bool" = none
  str : mg "str" = none
  tuple : mg "tuple" = none
  len : mg "len" = none
  abs : mg "abs" = none
  list : mg "list" = none
  range : mg "range" = none
  all : mg "all" = none
  zip : mg "zip" = none
def BIG : Nat := 2 ^ 8000
theorem lt_big {n k : Nat} (h : n < 2 ^ k) (hk : k ≤ 8000) : n < BIG := Nat.lt_of_lt_of_le h (Nat.pow_le_pow_right (by decide) hk)
theorem log2_of {n : Nat} (h : n < BIG) : n.log2 < 9000 := by
  rcases Nat.eq_zero_or_pos n with h0 | hp
  · rw [h0]; decide
  · have := (Nat.log2_lt (Nat.ne_of_gt hp)).mpr h
    omega
def gd (a b : Int) : Int := (Int.gcd a b : Int)
theorem gd_step {a b : Int} (ha : 0 ≤ a) (hb : 0 < b) : gd b (Int.fmod a b) = gd a b := by
  unfold gd
  rw [Int.fmod_eq_emod_of_nonneg _ (by omega)]
  obtain ⟨n, rfl⟩ := Int.eq_ofNat_of_zero_le ha
  obtain ⟨m, rfl⟩ := Int.eq_ofNat_of_zero_le (Int.le_of_lt hb)
  have e : ((n : Int) % (m : Int)) = ((n % m : Nat) : Int) := rfl
  rw [e]
  show ((Nat.gcd m (n % m) : Nat) : Int) = ((Nat.gcd n m : Nat) : Int)
  rw [Nat.gcd_comm n m, Nat.gcd_rec m n, Nat.gcd_comm]
theorem gd_zero {a : Int} (ha : 0 ≤ a) : gd a 0 = a := by
  unfold gd; rw [Int.gcd_zero_right]; omega
theorem gd_pos {a b : Int} (hb : 0 < b) : 0 < gd a b := by
  unfold gd
  have : 0 < Int.gcd a b := Int.gcd_pos_of_ne_zero_right a (by omega)
  omega
theorem gd_dvd_l (a b : Int) : gd a b ∣ a := Int.gcd_dvd_left ..
theorem gd_dvd_r (a b : Int) : gd a b ∣ b := Int.gcd_dvd_right ..
theorem gd_le {a b : Int} (hb : 0 < b) : gd a b ≤ b := Int.le_of_dvd hb (gd_dvd_r a b)
theorem fdiv_mul {a g : Int} (hg : 0 < g) (h : g ∣ a) : Int.fdiv a g * g = a := by
  rw [Int.fdiv_eq_ediv_of_nonneg _ (by omega)]
  exact Int.ediv_mul_cancel h
theorem gd_neg_l (a b : Int) : gd (-a) b = gd a b := by
  unfold gd; rw [Int.neg_gcd]
theorem gd_abs (a b : Int) : gd (if a < 0 then -a else a) b = gd a b := by
  split
  · exact gd_neg_l a b
  · rfl
theorem gd_mul {a b m : Int} (hm : 0 ≤ m) : gd (a * m) (b * m) = gd a b * m := by
  unfold gd
  rw [Int.gcd_mul_right]
  have : (m.natAbs : Int) = m := by omega
  rw [← this]; simp
theorem low {t b g : Int} (hb : 0 < b) (hg : g = gd t b) :
    0 < g ∧ 1 ≤ Int.fdiv b g ∧ Int.fdiv t g * b = t * Int.fdiv b g ∧ gd (Int.fdiv t g) (Int.fdiv b g) = 1 := by
  have g0 : 0 < g := hg ▸ gd_pos hb
  have ht := fdiv_mul g0 (hg ▸ gd_dvd_l t b)
  have hbb := fdiv_mul g0 (hg ▸ gd_dvd_r t b)
  generalize Int.fdiv t g = x at *
  generalize Int.fdiv b g = y at *
  refine ⟨g0, ?_, ?_, ?_⟩
  · rcases (by omega : 1 ≤ y ∨ y ≤ 0) with h | h
    · exact h
    · have := Int.mul_nonpos_of_nonpos_of_nonneg h (Int.le_of_lt g0)
      omega
  · rw [← ht, ← hbb]
    rw [Int.mul_assoc x g y, Int.mul_comm g y]
  · have := gd_mul (a := x) (b := y) (Int.le_of_lt g0)
    rw [ht, hbb, ← hg] at this
    have : (gd x y - 1) * g = 0 := by rw [Int.sub_mul, ← this]; omega
    rcases Int.mul_eq_zero.mp this with h | h
    · omega
    · omega
def ft (t b : Int) : Int := if b < 0 then Int.fdiv (-t) (gd (-t) (-b)) else Int.fdiv t (gd t b)
def fb (t b : Int) : Int := if b < 0 then Int.fdiv (-b) (gd (-t) (-b)) else Int.fdiv b (gd t b)
theorem frac_low {t b : Int} (hb : b ≠ 0) : 1 ≤ fb t b ∧ ft t b * b = t * fb t b ∧ gd (ft t b) (fb t b) = 1 := by
  unfold ft fb
  by_cases h : b < 0
  · rw [if_pos h, if_pos h]
    obtain ⟨_, a1, a2, a3⟩ := low (t := -t) (b := -b) (by omega) rfl
    refine ⟨a1, ?_, a3⟩
    have e1 : Int.fdiv (-t) (gd (-t) (-b)) * -b = -(Int.fdiv (-t) (gd (-t) (-b)) * b) := Int.mul_neg _ _
    have e2 : -t * Int.fdiv (-b) (gd (-t) (-b)) = -(t * Int.fdiv (-b) (gd (-t) (-b))) := Int.neg_mul _ _
    rw [e1, e2] at a2
    omega
  · rw [if_neg h, if_neg h]
    obtain ⟨_, a1, a2, a3⟩ := low (t := t) (b := b) (by omega) rfl
    exact ⟨a1, a2, a3⟩
theorem gd_log {t b : Int} (hb : 0 < b) (h : b.natAbs < BIG) : (gd t b).natAbs.log2 < 9000 := by
  refine log2_of (Nat.lt_of_le_of_lt ?_ h)
  have h1 := gd_le (a := t) hb
  have h2 := gd_pos (a := t) hb
  omega
theorem abs_nonneg (a : Int) : 0 ≤ (if a < 0 then -a else a) := by split <;> omega
theorem same_new {H : Hp} {p : Addr} (h : H p = none) (o : HO) : Same H (upd H p o) := fun b u q => by rw [upd_ne (ne_of_none q h)]; exact q
theorem Same.refl' {H : Hp} : Same H H := fun _ _ e => e
structure BadF (K : PySem.W.Frag) (mg : Str → Option Value) (C : Addr) : Prop where
  m : mg "BadFraction" = some (.ref C)
  e : PySem.W.excIn K C veB "ValueError.__new__" = true
structure DefD (K : PySem.W.Frag) (mg : Str → Option Value) (x : Str) (st : Stmt) (dV : Value) (f : Addr) (fd : FuncData) (ps : List Str) (ds : List Value) : Prop where
  F : FunD K x x st dV f fd
  b : Binds K fd ps []
  d : Binds K fd ps ds
  v : Vals [.int 1] ds
  m : mg x = some (.ref f)
theorem fdiv_abs {t g : Int} (hg : 0 < g) (h : g ∣ t) : (Int.fdiv t g).natAbs ≤ t.natAbs := by
  have e := fdiv_mul hg h
  generalize Int.fdiv t g = q at *
  subst e
  rw [Int.natAbs_mul]
  exact Nat.le_mul_of_pos_right _ (by omega)
theorem ft_abs {t b : Int} (hb : b ≠ 0) : (ft t b).natAbs ≤ t.natAbs := by
  unfold ft
  split
  · have := fdiv_abs (gd_pos (a := -t) (b := -b) (by omega)) (gd_dvd_l (-t) (-b))
    rw [Int.natAbs_neg] at this
    exact this
  · exact fdiv_abs (gd_pos (by omega)) (gd_dvd_l t b)
theorem fb_abs {t b : Int} (hb : b ≠ 0) : (fb t b).natAbs ≤ b.natAbs := by
  unfold fb
  split
  · have := fdiv_abs (gd_pos (a := -t) (b := -b) (by omega)) (gd_dvd_r (-t) (-b))
    rw [Int.natAbs_neg] at this
    exact this
  · exact fdiv_abs (gd_pos (by omega)) (gd_dvd_r t b)
abbrev Fq := Int × Int
def Red (a : Fq) : Prop := 1 ≤ a.2 ∧ gd a.1 a.2 = 1
def Fb (k : Nat) (a : Fq) : Prop := a.1.natAbs < 2 ^ k ∧ a.2.natAbs < 2 ^ k
def mkF (t b : Int) : Fq := (ft t b, fb t b)
def plF (a b : Fq) : Fq := mkF (a.1 * b.2 + b.1 * a.2) (a.2 * b.2)
def tiF (a b : Fq) : Fq := mkF (a.1 * b.1) (a.2 * b.2)
theorem Red.mul {a b : Fq} (ha : Red a) (hb : Red b) : a.2 * b.2 ≠ 0 := Int.mul_ne_zero (by have := ha.1; omega) (by have := hb.1; omega)
theorem Red.mul_pos {a b : Fq} (ha : Red a) (hb : Red b) : 0 < a.2 * b.2 := Int.mul_pos (by have := ha.1; omega) (by have := hb.1; omega)
theorem mk_red {t b : Int} (h : b ≠ 0) : Red (mkF t b) := by
  obtain ⟨a1, _, a3⟩ := frac_low (t := t) h
  exact ⟨a1, a3⟩
theorem Red.plus {a b : Fq} (ha : Red a) (hb : Red b) : Red (plF a b) := mk_red (ha.mul hb)
theorem Red.times {a b : Fq} (ha : Red a) (hb : Red b) : Red (tiF a b) := mk_red (ha.mul hb)
theorem mul_lt {a b : Int} {j k : Nat} (ha : a.natAbs < 2 ^ j) (hb : b.natAbs < 2 ^ k) : (a * b).natAbs < 2 ^ (j + k) := by
  rw [Int.natAbs_mul, Nat.pow_add]
  exact Nat.mul_lt_mul_of_lt_of_lt ha hb
theorem add_lt {a b : Int} {k : Nat} (ha : a.natAbs < 2 ^ k) (hb : b.natAbs < 2 ^ k) : (a + b).natAbs < 2 ^ (k + 1) := by
  have h1 := Int.natAbs_add_le a b
  rw [Nat.pow_succ]
  omega
theorem pow_up {n j k : Nat} (h : n < 2 ^ j) (hk : j ≤ k) : n < 2 ^ k := Nat.lt_of_lt_of_le h (Nat.pow_le_pow_right (by decide) hk)
theorem Fb.mono {j k : Nat} {a : Fq} (h : Fb j a) (hk : j ≤ k) : Fb k a := ⟨pow_up h.1 hk, pow_up h.2 hk⟩
theorem Fb.top {a b : Fq} {j k : Nat} (fa : Fb j a) (fb : Fb k b) : (a.1 * b.2 + b.1 * a.2).natAbs < 2 ^ (j + k + 1) := add_lt (mul_lt fa.1 fb.2) (by rw [Nat.add_comm j k]; exact mul_lt fb.1 fa.2)
theorem Fb.bot {a b : Fq} {j k : Nat} (fa : Fb j a) (fb : Fb k b) : (a.2 * b.2).natAbs < 2 ^ (j + k) := mul_lt fa.2 fb.2
theorem Fb.plus {a b : Fq} {j k : Nat} (ha : Red a) (hb : Red b) (fa : Fb j a) (fb : Fb k b) : Fb (j + k + 1) (plF a b) :=
  ⟨Nat.lt_of_le_of_lt (ft_abs (ha.mul hb)) (fa.top fb), Nat.lt_of_le_of_lt (fb_abs (ha.mul hb)) (pow_up (fa.bot fb) (Nat.le_succ _))⟩
theorem Fb.times {a b : Fq} {j k : Nat} (ha : Red a) (hb : Red b) (fa : Fb j a) (fb : Fb k b) : Fb (j + k) (tiF a b) :=
  ⟨Nat.lt_of_le_of_lt (ft_abs (ha.mul hb)) (mul_lt fa.1 fb.1), Nat.lt_of_le_of_lt (fb_abs (ha.mul hb)) (fa.bot fb)⟩
theorem red_one : Red (0, 1) := ⟨by decide, by decide⟩
theorem low_mk {t b : Int} (h : 0 < b) : (Int.fdiv t (gd t b), Int.fdiv b (gd t b)) = mkF t b := by
  unfold mkF ft fb
  rw [if_neg (by omega), if_neg (by omega)]
abbrev Pq := List (Int × Fq)
abbrev Su := Fq × Pq
def worthP (s : Su) (vals : List Fq) : Fq := s.2.foldl (fun t m => plF t (tiF m.2 (vals.getD m.1.toNat (0, 1)))) s.1
def Gd (k : Nat) (a : Fq) : Prop := Red a ∧ Fb k a
structure Wf (s : Su) : Prop where
  c : Gd 101 s.1
  p : ∀ m ∈ s.2, Gd 101 m.2 ∧ m.2.1 ≠ 0 ∧ 0 ≤ m.1 ∧ m.1 < 60
  r : s.2.Pairwise fun a b => a.1 < b.1
  l : s.2.length ≤ 12
theorem Gd.mono {j k : Nat} {a : Fq} (h : Gd j a) (hk : j ≤ k) : Gd k a := ⟨h.1, h.2.mono hk⟩
theorem Gd.plus {j k : Nat} {a b : Fq} (ha : Gd j a) (hb : Gd k b) : Gd (j + k + 1) (plF a b) := ⟨ha.1.plus hb.1, ha.2.plus ha.1 hb.1 hb.2⟩
theorem Gd.times {j k : Nat} {a b : Fq} (ha : Gd j a) (hb : Gd k b) : Gd (j + k) (tiF a b) := ⟨ha.1.times hb.1, ha.2.times ha.1 hb.1 hb.2⟩
theorem gd_one {k : Nat} (h : 1 ≤ k) : Gd k (0, 1) := ⟨red_one, pow_up (j := 1) (by decide) h, pow_up (j := 1) (by decide) h⟩
theorem red_uniq {a b : Fq} (ha : Red a) (hb : Red b) (e : a.1 * b.2 = b.1 * a.2) : a = b := by
  obtain ⟨a1, a2⟩ := a
  obtain ⟨b1, b2⟩ := b
  obtain ⟨h1, g1⟩ := ha
  obtain ⟨h2, g2⟩ := hb
  simp only [gd] at h1 g1 h2 g2 e
  have g1' : Nat.gcd a2.natAbs a1.natAbs = 1 := by rw [Nat.gcd_comm]; unfold Int.gcd at g1; omega
  have g2' : Nat.gcd b2.natAbs b1.natAbs = 1 := by rw [Nat.gcd_comm]; unfold Int.gcd at g2; omega
  have e' : a1.natAbs * b2.natAbs = b1.natAbs * a2.natAbs := by rw [← Int.natAbs_mul, ← Int.natAbs_mul, e]
  have d1 : a2.natAbs ∣ b2.natAbs := Nat.Coprime.dvd_of_dvd_mul_left (k := a2.natAbs) (m := a1.natAbs) g1' ⟨b1.natAbs, by rw [e', Nat.mul_comm]⟩
  have d2 : b2.natAbs ∣ a2.natAbs := Nat.Coprime.dvd_of_dvd_mul_left (k := b2.natAbs) (m := b1.natAbs) g2' ⟨a1.natAbs, by rw [← e', Nat.mul_comm]⟩
  have q := Nat.dvd_antisymm d1 d2
  have q2 : a2 = b2 := by omega
  subst q2
  have : a1 = b1 := Int.eq_of_mul_eq_mul_right (by omega) e
  rw [this]
theorem mk_cross {t b : Int} (h : b ≠ 0) : (mkF t b).1 * b = t * (mkF t b).2 := (frac_low (t := t) h).2.1
theorem upd_new {H H1 : Hp} {p : Addr} {o : HO} (e : upd H p o = H1) (hp : H p = none) : Same H H1 ∧ H1 p = some o := e ▸ ⟨same_new hp o, upd_same⟩
theorem take_next {α : Type} {l : List α} {i : Nat} {x : α} (h : l[i]? = some x) : l.take (i + 1) = l.take i ++ [x] := by
  rw [List.take_succ, h]
  rfl
theorem pickL {xs : List V} {n : Nat} (hn : xs.length = n) (h0 : 0 < n) (c : Int) : ∃ v, atI xs (c % (n : Int)) = some v ∧ v ∈ xs := by
  have a := Int.emod_nonneg c (show (n : Int) ≠ 0 by omega)
  have b := Int.emod_lt_of_pos c (show (0 : Int) < n by omega)
  have e : c % (n : Int) = (((c % (n : Int)).toNat : Nat) : Int) := by omega
  have hj : (c % (n : Int)).toNat < xs.length := by omega
  refine ⟨xs[(c % (n : Int)).toNat], ?_, List.getElem_mem hj⟩
  have z : atI xs (((c % (n : Int)).toNat : Nat) : Int) = some xs[(c % (n : Int)).toNat] := atI_nat (by simp [hj])
  rw [← e] at z
  exact z
theorem pickC {x : Str} {n : Nat} (hn : x.cps.toList.length = n) (h0 : 0 < n) (hx : ∀ c ∈ x.cps.toList, c < 128) (c : Int) : ∃ d, atI x.cps.toList (c % (n : Int)) = some d ∧ d < 128 := by
  have a := Int.emod_nonneg c (show (n : Int) ≠ 0 by omega)
  have b := Int.emod_lt_of_pos c (show (0 : Int) < n by omega)
  have e : c % (n : Int) = (((c % (n : Int)).toNat : Nat) : Int) := by omega
  have hj : (c % (n : Int)).toNat < x.cps.toList.length := by omega
  refine ⟨x.cps.toList[(c % (n : Int)).toNat], ?_, hx _ (List.getElem_mem hj)⟩
  have z : atI x.cps.toList (((c % (n : Int)).toNat : Nat) : Int) = some x.cps.toList[(c % (n : Int)).toNat] := atI_nat (by simp)
  rw [← e] at z
  exact z
section
variable {P : Program} {w : World} {K : PySem.W.Frag} {mg : Str → Option Value} {base : Heap} {f : Addr} {fd : FuncData}
def spGd : Sp := fun vs H Q _ => ∃ a b : Int, vs = [.int a, .int b] ∧ 0 ≤ a ∧ 0 ≤ b ∧ Q (.int (gd a b)) H
theorem sc_greatest_divisor : FnScope ["one", "other", "rest"] ["one", "other"] (defScope s_greatest_divisor) := ⟨rfl, rfl, rfl, by decide +kernel, rfl, by decide +kernel, by decide +kernel⟩
theorem ok_greatest_divisor (F : Fun K "greatest_divisor" "greatest_divisor" s_greatest_divisor f fd) : FnOk P w K mg base CX0 1 f fd ["one", "other"] spGd := by
  refine F.ok sc_greatest_divisor (fun vs H Q E h => ?_) (fun cdv A outer s H vs Q E hr h => ?_)
  · obtain ⟨a, b, rfl, _⟩ := h
    rfl
  obtain ⟨a, b, rfl, ha, hb, q⟩ := h
  have nd := sc_greatest_divisor.nd
  refine ⟨_, pss_cons (ps_while PassesOwn.never (pt_cmpR op_ne (pv 1) pe_int (nomark _))
      (pss_cons (ps_set (i := 2) nd rfl (Or.inl rfl) (pe_op op_modN (pv 0) (pv 1)))
      (pss_cons (ps_set (i := 0) nd rfl (Or.inl rfl) (pv 1)) (pss_one (ps_set (i := 1) nd rfl (Or.inl rfl) (pv 2))))))
    (pss_one (ps_ret (pv 0))), ?_⟩
  refine ⟨fun m σ H' => H' = H ∧ ∃ (x y : Int) (z : Option V), σ = [some (.int x), some (.int y), z] ∧ 0 ≤ x ∧ 0 ≤ y ∧ gd x y = gd a b ∧ m = y.toNat, ⟨b.toNat, rfl, a, b, none, rfl, ha, hb, rfl, rfl⟩, ?_⟩
  rintro m σ H' ⟨rfl, x, y, z, rfl, hx, hy, eg, rfl⟩
  refine ⟨_, rfl, rfl, _, rfl, ?_⟩
  by_cases h0 : y = 0
  · subst h0
    refine iteN (neN rfl) ?_
    refine ⟨_, rfl, ?_⟩
    rw [gd_zero hx] at eg
    rw [eg]
    exact q
  · refine iteY (neY h0) ?_
    refine ⟨fun σ' H2 => H2 = H' ∧ σ' = [some (.int y), some (.int (x.fmod y)), some (.int (x.fmod y))], ?_, ?_⟩
    · rintro σ' H2 ⟨rfl, rfl⟩
      have yp : 0 < y := by omega
      have m1 := Int.fmod_nonneg_of_pos x yp
      have m2 := Int.fmod_lt_of_pos x yp
      exact ⟨(x.fmod y).toNat, by omega, rfl, y, x.fmod y, _, rfl, hy, m1, by rw [gd_step hx yp]; exact eg, rfl⟩
    · exact ⟨_, rfl, _, rfl, x, y, rfl, rfl, h0, _, rfl, _, rfl, rfl, rfl⟩
def spFracP (C : Addr) : Sp := fun vs H Q E => ∃ t b : Int, vs = [.int t, .int b] ∧ 0 ≤ b ∧ b.natAbs < BIG ∧ (b = 0 → E (.ref C) none H) ∧ (0 < b → ∀ p, H p = none → Q (.ref p) (upd H p (.tup [.int (Int.fdiv t (gd t b)), .int (Int.fdiv b (gd t b))])))
def spFrac (C : Addr) : Sp := fun vs H Q E => ∃ t b : Int, vs = [.int t, .int b] ∧ b.natAbs < BIG ∧ (b = 0 → E (.ref C) none H) ∧ (b ≠ 0 → ∀ p, H p = none → Q (.ref p) (upd H p (.tup [.int (ft t b), .int (fb t b)])))
theorem sc_fraction : FnScope ["top", "bottom", "divisor"] ["top", "bottom"] (defScope s_fraction) := ⟨rfl, rfl, rfl, by decide +kernel, rfl, by decide +kernel, by decide +kernel⟩
theorem ok_fractionP {fg C : Addr} {dg : FuncData} {dV : Value} (F : FunD K "fraction" "fraction" s_fraction dV f fd) (B : Blt mg) (G : DefAt K mg "greatest_divisor" s_greatest_divisor fg dg ["one", "other"]) (X : BadF K mg C) :
    FnOk P w K mg base (CXF P w) 2 f fd ["top", "bottom"] (spFracP C) := by
  have OG : FnOk P w K mg base (CXF P w) 1 fg dg ["one", "other"] spGd := (ok_greatest_divisor G.F).cxf _
  refine F.okX sc_fraction (fun vs H Q E h => ?_) (fun cdv A outer s H vs Q E hr h => ?_)
  · obtain ⟨t, b, rfl, _⟩ := h
    rfl
  obtain ⟨t, b, rfl, hb, hz, h0, h1⟩ := h
  have nd := sc_fraction.nd
  refine ⟨_, pss_cons (ps_if (pt_cmpR op_eq (pv 1) pe_int (nomark _)) (pss_one (ps_raise rfl raises_fn X.e rfl X.m (pa_cons pe_str pa_nil))) pss_nil)
    (pss_cons (ps_if (pt_cmpR op_lt (pv 1) pe_int (nomark _)) pss_never pss_nil)
    (pss_cons (ps_set (i := 2) nd rfl (Or.inl rfl) (pe_callS OG hr rfl G.m G.F.kp G.b .nil passes_fn (pa_cons (pe_callB call_abs rfl B.abs bt_abs (pa_cons (pv 0) pa_nil)) (pa_cons (pv 1) pa_nil))))
    (pss_one (ps_ret (pe_tup (pa_cons (pe_op op_fdivB (pv 0) (pv 2)) (pa_cons (pe_op op_fdivB (pv 1) (pv 2)) pa_nil))))))), ?_⟩
  refine ⟨_, rfl, rfl, _, rfl, ?_⟩
  by_cases z : b = 0
  · subst z
    refine iteT ?_
    exact ⟨by show 1 ≤ sizeLine; decide, h0 rfl⟩
  · refine iteN (eqN z) ?_
    refine ⟨_, rfl, _, _, rfl, rfl, _, rfl, ?_⟩
    refine iteN (decide_eq_false (by omega)) ?_
    have bp : 0 < b := by omega
    refine ⟨_, rfl, t, rfl, _, rfl, _, b, rfl, abs_nonneg t, hb, ?_⟩
    rw [gd_abs]
    have g0 := gd_pos (a := t) bp
    have gl := gd_log (t := t) bp hz
    refine ⟨_, rfl, _, rfl, t, _, rfl, rfl, ⟨by omega, gl⟩, _, rfl, _, rfl, b, _, rfl, rfl, ⟨by omega, gl⟩, (by show 2 ≤ sizeLine; decide), fun p hp => h1 bp p hp⟩
theorem ok_fraction {fg C : Addr} {dg : FuncData} {dV : Value} {ds : List Value} (D : DefD K mg "fraction" s_fraction dV f fd ["top", "bottom"] ds) (B : Blt mg) (G : DefAt K mg "greatest_divisor" s_greatest_divisor fg dg ["one", "other"]) (X : BadF K mg C) :
    FnOk P w K mg base (CXF P w) 3 f fd ["top", "bottom"] (spFrac C) := by
  have OG : FnOk P w K mg base (CXF P w) 2 fg dg ["one", "other"] spGd := ((ok_greatest_divisor G.F).cxf _).mono (by decide)
  have OP : FnOk P w K mg base (CXF P w) 2 f fd ["top", "bottom"] (spFracP C) := ok_fractionP D.F B G X
  refine D.F.okX sc_fraction (fun vs H Q E h => ?_) (fun cdv A outer s H vs Q E hr h => ?_)
  · obtain ⟨t, b, rfl, _⟩ := h
    rfl
  obtain ⟨t, b, rfl, hz, h0, h1⟩ := h
  have nd := sc_fraction.nd
  refine ⟨_, pss_cons (ps_if (pt_cmpR op_eq (pv 1) pe_int (nomark _)) (pss_one (ps_raise rfl raises_fn X.e rfl X.m (pa_cons pe_str pa_nil))) pss_nil)
    (pss_cons (ps_if (pt_cmpR op_lt (pv 1) pe_int (nomark _)) (pss_one (ps_ret (pe_callS OP hr rfl D.m D.F.kp D.b .nil passes_fn (pa_cons (pe_un un_neg (pv 0)) (pa_cons (pe_un un_neg (pv 1)) pa_nil))))) pss_nil)
    (pss_cons (ps_set (i := 2) nd rfl (Or.inl rfl) (pe_callS OG hr rfl G.m G.F.kp G.b .nil passes_fn (pa_cons (pe_callB call_abs rfl B.abs bt_abs (pa_cons (pv 0) pa_nil)) (pa_cons (pv 1) pa_nil))))
    (pss_one (ps_ret (pe_tup (pa_cons (pe_op op_fdivB (pv 0) (pv 2)) (pa_cons (pe_op op_fdivB (pv 1) (pv 2)) pa_nil))))))), ?_⟩
  refine ⟨_, rfl, rfl, _, rfl, ?_⟩
  by_cases z : b = 0
  · subst z
    refine iteT ?_
    exact ⟨by show 1 ≤ sizeLine; decide, h0 rfl⟩
  · refine iteN (eqN z) ?_
    refine ⟨_, rfl, _, _, rfl, rfl, _, rfl, ?_⟩
    have h1' := h1 z
    unfold ft fb at h1'
    by_cases n : b < 0
    · rw [if_pos n, if_pos n] at h1'
      refine iteY (decide_eq_true n) ?_
      exact ⟨_, rfl, t, rfl, _, rfl, b, rfl, -t, -b, rfl, by omega, by omega, fun q => by omega, fun _ => h1'⟩
    · rw [if_neg n, if_neg n] at h1'
      refine iteN (decide_eq_false n) ?_
      have bp : 0 < b := by omega
      refine ⟨_, rfl, t, rfl, _, rfl, _, b, rfl, abs_nonneg t, by omega, ?_⟩
      rw [gd_abs]
      have g0 := gd_pos (a := t) bp
      have gl := gd_log (t := t) bp hz
      refine ⟨_, rfl, _, rfl, t, _, rfl, rfl, ⟨by omega, gl⟩, _, rfl, _, rfl, b, _, rfl, rfl, ⟨by omega, gl⟩, (by show 2 ≤ sizeLine; decide), fun p hp => h1' p hp⟩
end
end Pw


set_option Elab.async false
set_option linter.all false
set_option maxRecDepth 100000
set_option maxHeartbeats 4000000
namespace Pw
open PySem L2
seal PE PT PW PA PS PSs PG PGs PI PIf PO PJ
def IsF (K : PySem.W.Frag) (H : Hp) (v : V) (a : Fq) : Prop := ∃ p, v = .ref p ∧ SqT K H p [.int a.1, .int a.2]
def Pr (K : PySem.W.Frag) (H : Hp) (v : V) (m : Int × Fq) : Prop := ∃ q fv, v = .ref q ∧ SqT K H q [.int m.1, fv] ∧ IsF K H fv m.2
def Ps (K : PySem.W.Frag) (H : Hp) (v : V) (ps : Pq) : Prop := ∃ p vs, v = .ref p ∧ H p = some (.tup vs) ∧ Paired (Pr K H) vs ps
def Sm (K : PySem.W.Frag) (H : Hp) (v : V) (s : Su) : Prop := ∃ p cv pv, v = .ref p ∧ H p = some (.tup [cv, pv]) ∧ IsF K H cv s.1 ∧ Ps K H pv s.2
section
variable {K : PySem.W.Frag} {H H' : Hp} {v : V} {a : Fq} {m : Int × Fq} {ps d : Pq} {s : Su} {kvs : List (Key × V)} {D : Addr} {ys : List V}
theorem IsF.same (e : Same H H') (h : IsF K H v a) : IsF K H' v a := let ⟨p, x, y⟩ := h; ⟨p, x, e.seqT y⟩
theorem Pr.same (e : Same H H') (h : Pr K H v m) : Pr K H' v m := let ⟨q, fv, x, y, z⟩ := h; ⟨q, fv, x, e.seqT y, z.same e⟩
theorem Ps.same (e : Same H H') (h : Ps K H v ps) : Ps K H' v ps := let ⟨p, vs, x, y, z⟩ := h; ⟨p, vs, x, e _ _ y, Paired.mapP z fun _ _ q => q.same e⟩
theorem IsF.hid (e : H D = some (.lst ys)) (h : IsF K H v a) : IsF K (hid D H) v a := let ⟨p, x, y⟩ := h; ⟨p, x, y.hid e⟩
theorem Pr.hid (e : H D = some (.lst ys)) (h : Pr K H v m) : Pr K (L2.hid D H) v m := let ⟨q, fv, x, y, z⟩ := h; ⟨q, fv, x, y.hid e, z.hid e⟩
theorem IsF.new {p : Addr} (hp : H p = none) : IsF K (upd H p (.tup [.int a.1, .int a.2])) (.ref p) a := ⟨p, rfl, SqT.of upd_same⟩
theorem fs_same {vs : List V} {as : List Fq} (e : Same H H') (h : Paired (IsF K H) vs as) : Paired (IsF K H') vs as := Paired.mapP h fun _ _ q => q.same e
end
theorem mf {x y : Int} {j k : Nat} (h : j + k ≤ 4000) (hx : x.natAbs < 2 ^ j) (hy : y.natAbs < 2 ^ k) : CMulF x y := ⟨j + k, by omega, pow_up hx (Nat.le_add_right _ _), pow_up hy (Nat.le_add_left _ _)⟩
def spBin (K : PySem.W.Frag) (g : Fq → Fq → Fq) : Sp := fun vs H Q _ => ∃ u v a b j k, vs = [u, v] ∧ IsF K H u a ∧ IsF K H v b ∧ Gd j a ∧ Gd k b ∧ j + k ≤ 4000 ∧ ∀ r H', Same H H' → IsF K H' r (g a b) → Q r H'
section
variable {P : Program} {w : World} {K : PySem.W.Frag} {mg : Str → Option Value} {base : Heap} {f : Addr} {fd : FuncData}
theorem sc_plus : FnScope ["one", "other"] ["one", "other"] (defScope s_plus) := ⟨rfl, rfl, rfl, by decide +kernel, rfl, by decide +kernel, by decide +kernel⟩
theorem ok_plus {ff fg C : Addr} {df dg : FuncData} {dV : Value} {ds : List Value} (F : Fun K "plus" "plus" s_plus f fd) (B : Blt mg) (D : DefD K mg "fraction" s_fraction dV ff df ["top", "bottom"] ds) (G : DefAt K mg "greatest_divisor" s_greatest_divisor fg dg ["one", "other"]) (X : BadF K mg C) :
    FnOk P w K mg base (CXF P w) 4 f fd ["one", "other"] (spBin K plF) := by
  have OF : FnOk P w K mg base (CXF P w) 3 ff df ["top", "bottom"] (spFrac C) := ok_fraction D B G X
  refine F.okX sc_plus (fun vs H Q E h => ?_) (fun cdv A outer s H vs Q E hr h => ?_)
  · obtain ⟨_, _, _, _, _, _, rfl, _⟩ := h
    rfl
  obtain ⟨_, _, a, b, j, k, rfl, ⟨p, rfl, hp⟩, ⟨q, rfl, hq⟩, ga, gb, hjk, h1⟩ := h
  have hkj : k + j ≤ 4000 := by omega
  refine ⟨_, pss_one (ps_ret (pe_callS OF hr rfl D.m D.F.kp D.b .nil passes_fn (pa_cons (pe_op op_add (pe_op op_mulF (pe_ix ix_tup (pv 0) (pe_int) (fun _ _ => rfl)) (pe_ix ix_tup (pv 1) (pe_int) (fun _ _ => rfl))) (pe_op op_mulF (pe_ix ix_tup (pv 1) (pe_int) (fun _ _ => rfl)) (pe_ix ix_tup (pv 0) (pe_int) (fun _ _ => rfl)))) (pa_cons (pe_op op_mulF (pe_ix ix_tup (pv 0) (pe_int) (fun _ _ => rfl)) (pe_ix ix_tup (pv 1) (pe_int) (fun _ _ => rfl))) pa_nil)))), ?_⟩
  exact ⟨_, rfl, p, _, _, _, rfl, rfl, hp, rfl, _, rfl, q, _, _, _, rfl, rfl, hq, rfl, _, _, rfl, rfl, mf hjk ga.2.1 gb.2.2, _, rfl, q, _, _, _, rfl, rfl, hq, rfl, _, rfl, p, _, _, _, rfl, rfl, hp, rfl, _, _, rfl, rfl, mf hkj gb.2.1 ga.2.2, _, _, rfl, rfl, _, rfl, p, _, _, _, rfl, rfl, hp, rfl, _, rfl, q, _, _, _, rfl, rfl, hq, rfl, _, _, rfl, rfl, mf hjk ga.2.2 gb.2.2, _, _, rfl, lt_big (ga.2.bot gb.2) (by omega), fun z => absurd z (ga.1.mul gb.1), fun _ p' hp' => h1 _ _ (same_new hp' _) (IsF.new (a := plF a b) hp')⟩
theorem sc_times : FnScope ["one", "other"] ["one", "other"] (defScope s_times) := ⟨rfl, rfl, rfl, by decide +kernel, rfl, by decide +kernel, by decide +kernel⟩
theorem ok_times {ff fg C : Addr} {df dg : FuncData} {dV : Value} {ds : List Value} (F : Fun K "times" "times" s_times f fd) (B : Blt mg) (D : DefD K mg "fraction" s_fraction dV ff df ["top", "bottom"] ds) (G : DefAt K mg "greatest_divisor" s_greatest_divisor fg dg ["one", "other"]) (X : BadF K mg C) :
    FnOk P w K mg base (CXF P w) 4 f fd ["one", "other"] (spBin K tiF) := by
  have OF : FnOk P w K mg base (CXF P w) 3 ff df ["top", "bottom"] (spFrac C) := ok_fraction D B G X
  refine F.okX sc_times (fun vs H Q E h => ?_) (fun cdv A outer s H vs Q E hr h => ?_)
  · obtain ⟨_, _, _, _, _, _, rfl, _⟩ := h
    rfl
  obtain ⟨_, _, a, b, j, k, rfl, ⟨p, rfl, hp⟩, ⟨q, rfl, hq⟩, ga, gb, hjk, h1⟩ := h
  have hkj : k + j ≤ 4000 := by omega
  refine ⟨_, pss_one (ps_ret (pe_callS OF hr rfl D.m D.F.kp D.b .nil passes_fn (pa_cons (pe_op op_mulF (pe_ix ix_tup (pv 0) (pe_int) (fun _ _ => rfl)) (pe_ix ix_tup (pv 1) (pe_int) (fun _ _ => rfl))) (pa_cons (pe_op op_mulF (pe_ix ix_tup (pv 0) (pe_int) (fun _ _ => rfl)) (pe_ix ix_tup (pv 1) (pe_int) (fun _ _ => rfl))) pa_nil)))), ?_⟩
  exact ⟨_, rfl, p, _, _, _, rfl, rfl, hp, rfl, _, rfl, q, _, _, _, rfl, rfl, hq, rfl, _, _, rfl, rfl, mf hjk ga.2.1 gb.2.1, _, rfl, p, _, _, _, rfl, rfl, hp, rfl, _, rfl, q, _, _, _, rfl, rfl, hq, rfl, _, _, rfl, rfl, mf hjk ga.2.2 gb.2.2, _, _, rfl, lt_big (ga.2.bot gb.2) (by omega), fun z => absurd z (ga.1.mul gb.1), fun _ p' hp' => h1 _ _ (same_new hp' _) (IsF.new (a := tiF a b) hp')⟩
def spWorth (K : PySem.W.Frag) : Sp := fun vs H Q _ => ∃ u w S fs vals, vs = [u, .ref w] ∧ Sm K H u S ∧ Wf S ∧ (SqL K H w fs ∨ SqT K H w fs) ∧ Paired (IsF K H) fs vals ∧ (∀ x ∈ vals, Gd 101 x) ∧ (∀ m ∈ S.2, m.1 < vals.length) ∧ ∀ r H', Same H H' → IsF K H' r (worthP S vals) → Q r H'
def wrt (c : Fq) (ms : Pq) (vals : List Fq) : Fq := ms.foldl (fun t m => plF t (tiF m.2 (vals.getD m.1.toNat (0, 1)))) c
theorem wrt_snoc (c : Fq) (ms : Pq) (vals : List Fq) (m : Int × Fq) : wrt c (ms ++ [m]) vals = plF (wrt c ms vals) (tiF m.2 (vals.getD m.1.toNat (0, 1))) := by
  unfold wrt
  rw [List.foldl_append]
  rfl
theorem val_at {K : PySem.W.Frag} {H : Hp} {fs : List V} {vals : List Fq} (h : Paired (IsF K H) fs vals) (g : ∀ x ∈ vals, Gd 101 x) {n : Int} (h0 : 0 ≤ n) (h1 : n < vals.length) :
    ∃ fv, atI fs n = some fv ∧ IsF K H fv (vals.getD n.toNat (0, 1)) ∧ Gd 101 (vals.getD n.toNat (0, 1)) := by
  have hl := h.length
  have hn : n.toNat < vals.length := by omega
  have hf : n.toNat < fs.length := by omega
  have en : n = ((n.toNat : Nat) : Int) := by omega
  have z : atI fs ((n.toNat : Nat) : Int) = some fs[n.toNat] := atI_nat (List.getElem?_eq_getElem hf)
  rw [← en] at z
  have ev : vals.getD n.toNat (0, 1) = vals[n.toNat] := by simp [hn]
  rw [ev]
  exact ⟨_, z, pair_get h n.toNat _ _ (List.getElem?_eq_getElem hf) (List.getElem?_eq_getElem hn), g _ (List.getElem_mem hn)⟩
theorem sc_worth : FnScope ["one", "values", "total", "number", "part"] ["one", "values"] (defScope s_worth) := ⟨rfl, rfl, rfl, by decide +kernel, rfl, by decide +kernel, by decide +kernel⟩
theorem lk_worth_one : (defScope s_worth).names.lookup ("one" : Str) = some .local := by decide +kernel
theorem lk_worth_values : (defScope s_worth).names.lookup ("values" : Str) = some .local := by decide +kernel
theorem lk_worth_total : (defScope s_worth).names.lookup ("total" : Str) = some .local := by decide +kernel
theorem lk_worth_number : (defScope s_worth).names.lookup ("number" : Str) = some .local := by decide +kernel
theorem lk_worth_part : (defScope s_worth).names.lookup ("part" : Str) = some .local := by decide +kernel
theorem lk_worth_plus : (defScope s_worth).names.lookup ("plus" : Str) = some .globalImplicit := by decide +kernel
theorem lk_worth_times : (defScope s_worth).names.lookup ("times" : Str) = some .globalImplicit := by decide +kernel
theorem ok_worth {ff fg CB aN aO fDP fDT : Addr} {df dg dDP dDT : FuncData} {dV : Value} {ds : List Value} (F : Fun K "worth" "worth" s_worth f fd) (B : Blt mg) (D : DefD K mg "fraction" s_fraction dV ff df ["top", "bottom"] ds) (G : DefAt K mg "greatest_divisor" s_greatest_divisor fg dg ["one", "other"]) (X : BadF K mg CB) (DP : DefAt K mg "plus" s_plus fDP dDP ["one", "other"]) (DT : DefAt K mg "times" s_times fDT dDT ["one", "other"]) : FnOk P w K mg base CX0 5 f fd ["one", "values"] (spWorth K) := by
  have OP : FnOk P w K mg base CX0 4 fDP dDP ["one", "other"] (spBin K plF) := (ok_plus DP.F B D G X).to0
  have OT : FnOk P w K mg base CX0 4 fDT dDT ["one", "other"] (spBin K tiF) := (ok_times DT.F B D G X).to0
  refine F.ok sc_worth (fun vs H Q E h => ?_) (fun cdv A outer s H vs Q E hr h => ?_)
  · obtain ⟨_, _, _, _, _, rfl, _⟩ := h
    rfl
  obtain ⟨_, w0, S, fs, vals, rfl, ⟨p, cv, pv', rfl, hp, hc, pp, vs1, rfl, hpp, pr1⟩, wS, hw, pv1, gv, bd, k⟩ := h
  have nd := sc_worth.nd
  have l1 : vs1.length = S.2.length := pr1.length
  have l12 := wS.l
  refine ⟨_, pss_cons (ps_set (i := 2) nd rfl (Or.inl lk_worth_total) (pe_ix ix_tup (pv 0 rfl (Or.inl lk_worth_one)) (pe_int) (fun _ _ => rfl)))
    (pss_cons (ps_for PassesOwn.never rfl (pi_tup (pe_ix ix_tup (pv 0 rfl (Or.inl lk_worth_one)) (pe_int) (fun _ _ => rfl))) (pg_tup rfl (pgs_cons (pg_name (i := 3) nd rfl (Or.inl lk_worth_number)) (pgs_cons (pg_name (i := 4) nd rfl (Or.inl lk_worth_part)) (pgs_nil)))) (pss_one (ps_set (i := 2) nd rfl (Or.inl lk_worth_total) (pe_call OP hr lk_worth_plus DP.m DP.F.kp DP.b .nil pass0 (pa_Name (pv 2 rfl (Or.inl lk_worth_total)) (pa_Call (pe_call OT hr lk_worth_times DT.m DT.F.kp DT.b .nil pass0 (pa_Name (pv 4 rfl (Or.inl lk_worth_part)) (pa_Subscript (pe_ix ix_seq (pv 1 rfl (Or.inl lk_worth_values)) (pv 3 rfl (Or.inl lk_worth_number)) (fun _ _ => rfl)) pa_nil))) pa_nil))))))
    (pss_one (ps_ret (pv 2 rfl (Or.inl lk_worth_total))))), ?_⟩
  refine ⟨_, rfl, p, _, _, _, rfl, rfl, SqT.of hp, rfl, ?_⟩
  refine ⟨_, rfl, p, _, _, _, rfl, rfl, SqT.of hp, rfl, pp, rfl, ⟨_, SqT.of hpp⟩, ?_⟩
  refine for_tup (xs := vs1) (fun i σ H' => ∃ (n pt : Option V) (tv : V), σ = [some (.ref p), some (.ref w0), some tv, n, pt] ∧ Same H H' ∧ IsF K H' tv (wrt S.1 (S.2.take i) vals) ∧ Gd (203 * i + 101) (wrt S.1 (S.2.take i) vals))
    ⟨none, none, cv, rfl, Same.refl', hc, wS.c⟩ (fun i σ H' _ h => ?_) (fun i x σ H' hx h => ?_) (fun σ H' h => ?_)
  · obtain ⟨_, _, _, _, sm, _⟩ := h
    exact SqT.of (sm _ _ hpp)
  · obtain ⟨n, pt, tv, rfl, sm, ft', gt'⟩ := h
    have hi : i < S.2.length := by rw [← l1]; exact (List.getElem?_eq_some_iff.mp hx).1
    have hm := List.getElem?_eq_getElem hi
    have hmem : S.2[i] ∈ S.2 := List.getElem_mem hi
    obtain ⟨a', fv, rfl, sq, hf⟩ := (pair_get pr1 i _ _ hx hm).same sm
    obtain ⟨g1, _, n0, _⟩ := wS.p _ hmem
    obtain ⟨xv, ex, fx, gx⟩ := val_at (Paired.mapP pv1 fun _ _ q => q.same sm) gv n0 (bd _ hmem)
    refine ⟨a', _, rfl, sq, rfl, _, _, rfl, _, _, rfl, rfl, ?_⟩
    have go : ∀ R : VK, R xv H' → rIx K (.ref w0) (.int S.2[i].1) H' R := fun R hR => by
      rcases hw with hw | hw
      · exact .inl ⟨w0, _, _, _, rfl, rfl, sm.seq hw, ex, hR⟩
      · exact .inr (.inl ⟨w0, _, _, _, rfl, rfl, sm.seqT hw, ex, hR⟩)
    refine ⟨_, rfl, _, rfl, _, rfl, _, rfl, go _ ?_⟩
    refine ⟨_, _, _, _, 101, 101, rfl, hf, fx, g1, gx, by decide, fun r1 H1 s1 f1 => ?_⟩
    refine ⟨_, _, _, _, 203 * i + 101, 202, rfl, ft'.same s1, f1, gt', g1.times gx, by omega, fun r2 H2 s2 f2 => ?_⟩
    refine ⟨_, _, r2, rfl, sm.trans (s1.trans s2), ?_, ?_⟩
    · rw [take_next hm, wrt_snoc]
      exact f2
    · rw [take_next hm, wrt_snoc]
      exact (gt'.plus (g1.times gx)).mono (by omega)
  · obtain ⟨n, pt, tv, rfl, sm, ft', gt'⟩ := h
    rw [l1, List.take_length] at ft'
    exact ⟨_, rfl, k _ _ sm ft'⟩
end
def dg (m : Nat) : List Nat := (Nat.toDigits 10 m).map Char.toNat
theorem int_list (n : Int) : (Str.ofString (toString n)).cps.toList = (if n < 0 then [45] else []) ++ dg n.natAbs := by
  rw [Str.ofString_eq_toList]
  cases n with
  | ofNat m =>
    have h : ¬ (Int.ofNat m < 0) := by
      have := Int.natCast_nonneg m
      show ¬ ((m : Int) < 0)
      omega
    rw [if_neg h]
    show ((Nat.repr m).toList.map Char.toNat).toArray.toList = _
    rw [Nat.toList_repr]
    rfl
  | negSucc m =>
    rw [if_pos (Int.negSucc_lt_zero m)]
    show (("-" ++ Nat.repr (m + 1)).toList.map Char.toNat).toArray.toList = _
    rw [String.toList_append, Nat.toList_repr]
    rfl
theorem log_of {n : Nat} {k m : Nat} (h : n < 2 ^ k) (hk : k ≤ m) (h0 : 0 < m) : n.log2 < m := by
  rcases Nat.eq_zero_or_pos n with e | p
  · subst e
    rw [show Nat.log2 0 = 0 by decide]
    exact h0
  · exact Nat.lt_of_lt_of_le ((Nat.log2_lt (Nat.ne_of_gt p)).mpr h) hk
theorem txt_len {x : Int} (h : x.natAbs < 2 ^ 1500) : (Str.ofString (toString x)).length ≤ 1600 := by
  have e := congrArg List.length (int_list x)
  have k : (Nat.toDigits 10 x.natAbs).length ≤ 1500 := Nat.length_toDigits_le_iff (by decide) (by decide) |>.mpr (Nat.lt_of_lt_of_le h (Nat.pow_le_pow_left (by decide) _))
  rw [List.length_append, Array.length_toList, dg, List.length_map] at e
  show (Str.ofString (toString x)).cps.size ≤ 1600
  split at e
  · rw [List.length_cons, List.length_nil] at e
    omega
  · rw [List.length_nil] at e
    omega
theorem empty_app (x : Str) : Str.empty ++ x = x := by
  obtain ⟨l⟩ := x
  show Str.mk (#[] ++ l) = _
  rw [Array.empty_append]
theorem app_empty (x : Str) : x ++ Str.empty = x := by
  obtain ⟨l⟩ := x
  show Str.mk (l ++ #[]) = _
  rw [Array.append_empty]
theorem app_assoc (x y z : Str) : x ++ y ++ z = x ++ (y ++ z) := by
  obtain ⟨a⟩ := x
  obtain ⟨b⟩ := y
  obtain ⟨c⟩ := z
  show Str.mk (a ++ b ++ c) = Str.mk (a ++ (b ++ c))
  rw [Array.append_assoc]
def shT (a : Fq) : Str := if a.2 = 1 then Str.ofString (toString a.1) else Str.ofString (toString a.1) ++ Str.ofString "/" ++ Str.ofString (toString a.2)
theorem shT_len {a : Fq} (h : Fb 1500 a) : (shT a).length ≤ 3300 := by
  have h1 := txt_len h.1
  have h2 := txt_len h.2
  have h3 : (Str.ofString "/").length = 1 := by decide
  unfold shT
  split
  · omega
  · simp only [app_len, h3]
    omega
section
variable {P : Program} {w : World} {K : PySem.W.Frag} {mg : Str → Option Value} {base : Heap} {f : Addr} {fd : FuncData}
def spShown (K : PySem.W.Frag) : Sp := fun vs H Q _ => ∃ v a, vs = [v] ∧ IsF K H v a ∧ Gd 1500 a ∧ Q (.str (shT a)) H
theorem sc_shown : FnScope ["one", "top", "bottom"] ["one"] (defScope s_shown) := ⟨rfl, rfl, rfl, by decide +kernel, rfl, by decide +kernel, by decide +kernel⟩
theorem lk_shown_one : (defScope s_shown).names.lookup ("one" : Str) = some .local := by decide +kernel
theorem lk_shown_top : (defScope s_shown).names.lookup ("top" : Str) = some .local := by decide +kernel
theorem lk_shown_bottom : (defScope s_shown).names.lookup ("bottom" : Str) = some .local := by decide +kernel
theorem ok_shown (F : Fun K "shown_fraction" "shown_fraction" s_shown f fd) : FnOk P w K mg base CX0 1 f fd ["one"] (spShown K) := by
  refine F.ok sc_shown (fun vs H Q E h => ?_) (fun cdv A outer s H vs Q E hr h => ?_)
  · obtain ⟨_, _, rfl, _⟩ := h
    rfl
  obtain ⟨_, ⟨x, y⟩, rfl, ⟨p, rfl, hp⟩, ⟨_, bx, bv⟩, k⟩ := h
  have nd := sc_shown.nd
  refine ⟨_, pss_cons (ps_set (i := 1) nd rfl (Or.inl lk_shown_top) (pe_ix ix_tup (pv 0 rfl (Or.inl lk_shown_one)) (pe_int) (fun _ _ => rfl)))
    (pss_cons (ps_set (i := 2) nd rfl (Or.inl lk_shown_bottom) (pe_ix ix_tup (pv 0 rfl (Or.inl lk_shown_one)) (pe_int) (fun _ _ => rfl)))
    (pss_cons (ps_if (pt_cmpR op_eq (pv 2 rfl (Or.inl lk_shown_bottom)) (pe_int) (nomark _)) (pss_one (ps_ret (pe_join1 (pe_fmI (pv 1 rfl (Or.inl lk_shown_top)))))) (pss_nil))
    (pss_one (ps_ret (pe_join (pj_cons (pe_fmI (pv 1 rfl (Or.inl lk_shown_top))) (pj_cons (pe_str) (pj_cons (pe_fmI (pv 2 rfl (Or.inl lk_shown_bottom))) (pj_nil))))))))), ?_⟩
  refine ⟨_, rfl, p, _, _, _, rfl, rfl, hp, rfl, _, rfl, p, _, _, _, rfl, rfl, hp, rfl, ?_⟩
  refine ⟨_, rfl, rfl, _, rfl, ?_⟩
  unfold shT at k
  dsimp only at k bx bv
  by_cases c : y = 1
  · rw [if_pos c] at k
    exact iteY (eqY c) ⟨_, rfl, x, rfl, log_of bx (by decide) (by decide), k⟩
  rw [if_neg c] at k
  have z1 := txt_len bx
  have z2 := txt_len bv
  have z3 : (Str.ofString "/").length = 1 := by decide
  refine iteN (eqN c) ⟨_, rfl, x, rfl, log_of bx (by decide) (by decide), _, rfl, ?_, _, rfl, ?_, _, rfl, y, rfl, log_of bv (by decide) (by decide), _, rfl, ?_, ?_⟩
  · show (Str.empty ++ Str.ofString (toString x)).length ≤ sizeLine
    rw [empty_app, sizeLine_eq]; omega
  · show ((Str.empty ++ Str.ofString (toString x)) ++ Str.ofString "/").length ≤ sizeLine
    rw [empty_app, app_len, sizeLine_eq]; omega
  · show (((Str.empty ++ Str.ofString (toString x)) ++ Str.ofString "/") ++ Str.ofString (toString y)).length ≤ sizeLine
    rw [empty_app, app_len, app_len, sizeLine_eq]; omega
  · show Q (.str (((Str.empty ++ Str.ofString (toString x)) ++ Str.ofString "/") ++ Str.ofString (toString y))) H
    rw [empty_app]; exact k
def spNT (K : PySem.W.Frag) : Sp := fun vs H Q _ => ∃ v a, vs = [v] ∧ IsF K H v a ∧ Gd 1500 a ∧ ∀ H', Same H H' → Q (.str (shT a)) H'
theorem sc_ntext : FnScope ["_law_one"] ["_law_one"] (defScope s_ntext) := ⟨rfl, rfl, rfl, by decide +kernel, rfl, by decide +kernel, by decide +kernel⟩
theorem lk_ntext__law_one : (defScope s_ntext).names.lookup ("_law_one" : Str) = some .local := by decide +kernel
theorem lk_ntext_int : (defScope s_ntext).names.lookup ("int" : Str) = some .globalImplicit := by decide +kernel
theorem lk_ntext_str : (defScope s_ntext).names.lookup ("str" : Str) = some .globalImplicit := by decide +kernel
theorem ok_ntext (F : Fun K "_law_number_text" "_law_number_text" s_ntext f fd) (B : Blt mg) : FnOk P w K mg base CX0 1 f fd ["_law_one"] (spNT K) := by
  refine F.ok sc_ntext (fun vs H Q E h => ?_) (fun cdv A outer s H vs Q E hr h => ?_)
  · obtain ⟨_, _, rfl, _⟩ := h
    rfl
  obtain ⟨_, ⟨x, y⟩, rfl, ⟨p, rfl, hp⟩, ⟨_, bx, bv⟩, k⟩ := h
  have nd := sc_ntext.nd
  dsimp only at bx bv hp
  have z1 := txt_len bx
  have z2 := txt_len bv
  have z3 : (Str.ofString "/").length = 1 := by decide
  refine ⟨_, pss_one (ps_ret (pe_op op_add_str (pe_callTy call_str_int lk_ntext_str B.str bt_str (pa_Subscript (pe_ix ix_tup (pv 0 rfl (Or.inl lk_ntext__law_one)) (pe_int) (fun _ _ => rfl)) pa_nil)) (pe_ix ix_list (pe_lst (pa_BinOp (pe_op op_add_str (pe_str) (pe_callTy call_str_int lk_ntext_str B.str bt_str (pa_Subscript (pe_ix ix_tup (pv 0 rfl (Or.inl lk_ntext__law_one)) (pe_int) (fun _ _ => rfl)) pa_nil))) (pa_Constant (pe_str) pa_nil))) (pe_callTy call_int1 lk_ntext_int B.int bt_int (pa_Compare (pe_cmpR op_eq (pe_ix ix_tup (pv 0 rfl (Or.inl lk_ntext__law_one)) (pe_int) (fun _ _ => rfl)) (pe_int) (nomark _)) pa_nil)) (fun _ _ => rfl)))), ?_⟩
  refine ⟨_, rfl, p, _, _, _, rfl, rfl, hp, rfl, _, rfl, log_of bx (by decide) (by decide), ?_⟩
  refine ⟨_, rfl, p, _, _, _, rfl, rfl, hp, rfl, _, rfl, log_of bv (by decide) (by decide), _, _, rfl, rfl, ?_, ?_⟩
  · show (Str.ofString "/").length + (Str.ofString (toString y)).length ≤ sizeLine
    rw [sizeLine_eq]; omega
  refine ⟨(by show 2 ≤ sizeLine; decide), fun l hz_l => ?_⟩
  generalize hH_ : upd _ l _ = H1
  obtain ⟨s1, e1⟩ := upd_new hH_ hz_l
  clear hH_
  refine ⟨_, rfl, p, _, _, _, rfl, rfl, s1.seqT hp, rfl, rfl, ?_⟩
  by_cases c : y = 1
  · rw [eqY c]
    refine .inr ⟨_, rfl, l, _, _, _, rfl, rfl, SqL.of e1, rfl, ?_⟩
    refine ⟨_, _, rfl, rfl, ?_, ?_⟩
    · show (Str.ofString (toString x)).length + Str.empty.length ≤ sizeLine
      rw [show Str.empty.length = 0 from rfl, sizeLine_eq]; omega
    · have := k H1 s1
      unfold shT at this
      rw [if_pos c] at this
      show Q (.str (Str.ofString (toString x) ++ Str.empty)) H1
      rw [app_empty]
      exact this
  · rw [eqN c]
    refine .inr ⟨_, rfl, l, _, _, _, rfl, rfl, SqL.of e1, rfl, ?_⟩
    refine ⟨_, _, rfl, rfl, ?_, ?_⟩
    · show (Str.ofString (toString x)).length + (Str.ofString "/" ++ Str.ofString (toString y)).length ≤ sizeLine
      rw [app_len, sizeLine_eq]; omega
    · have := k H1 s1
      unfold shT at this
      rw [if_neg c] at this
      show Q (.str (Str.ofString (toString x) ++ (Str.ofString "/" ++ Str.ofString (toString y)))) H1
      rw [← app_assoc]
      exact this
structure Cst (K : PySem.W.Frag) (mg : Str → Option Value) (aN : Addr) : Prop where
  mN : mg "NOUGHT" = some (.ref aN)
  fN : ∀ H, SqT K H aN [.int 0, .int 1]
structure Pl (ps : Pq) (n : Nat) : Prop where
  p : ∀ m ∈ ps, Gd 101 m.2 ∧ m.2.1 ≠ 0 ∧ 0 ≤ m.1 ∧ m.1 < n
  r : ps.Pairwise fun a b => a.1 < b.1
  l : ps.length ≤ n
  n : n ≤ 12
theorem Pl.wf {ps : Pq} {n : Nat} (h : Pl ps n) : Wf ((0, 1), ps) := ⟨gd_one (by decide), fun m hm => ⟨(h.p m hm).1, (h.p m hm).2.1, (h.p m hm).2.2.1, Int.lt_of_lt_of_le (h.p m hm).2.2.2 (by have := h.n; omega)⟩, h.r, Nat.le_trans h.l h.n⟩
theorem wrt_gd {n : Nat} {vals : List Fq} (gv : ∀ x ∈ vals, Gd 101 x) : ∀ (j : Nat) (ms : Pq) (c : Fq), (∀ m ∈ ms, Gd 101 m.2 ∧ 0 ≤ m.1 ∧ m.1 < vals.length) → Gd j c → Gd (j + 203 * ms.length) (wrt c ms vals)
  | j, [], c, _, hc => hc
  | j, m :: ms, c, h, hc => by
    obtain ⟨g1, h0, h1⟩ := h m (.head _)
    have hn : m.1.toNat < vals.length := by omega
    have ev : vals.getD m.1.toNat (0, 1) = vals[m.1.toNat] := by simp [hn]
    have g2 : Gd 101 (vals.getD m.1.toNat (0, 1)) := by rw [ev]; exact gv _ (List.getElem_mem hn)
    have := wrt_gd (n := n) gv (j + 203) ms (plF c (tiF m.2 (vals.getD m.1.toNat (0, 1)))) (fun x hx => h x (.tail _ hx)) ((hc.plus (g1.times g2)).mono (by omega))
    exact this.mono (by rw [List.length_cons]; omega)
def spPA (K : PySem.W.Frag) : Sp := fun vs H Q _ => ∃ u w ps fs vals, vs = [u, .ref w] ∧ Ps K H u ps ∧ Pl ps vals.length ∧ SqT K H w fs ∧ Paired (IsF K H) fs vals ∧ (∀ x ∈ vals, Gd 101 x) ∧ ∀ r H', Same H H' → IsF K H' r (wrt (0, 1) ps vals) → Gd (1 + 203 * ps.length) (wrt (0, 1) ps vals) → Q r H'
theorem sc_pairs_at : FnScope ["pairs", "values"] ["pairs", "values"] (defScope s_pairs_at) := ⟨rfl, rfl, rfl, by decide +kernel, rfl, by decide +kernel, by decide +kernel⟩
theorem lk_pairs_at_pairs : (defScope s_pairs_at).names.lookup ("pairs" : Str) = some .local := by decide +kernel
theorem lk_pairs_at_values : (defScope s_pairs_at).names.lookup ("values" : Str) = some .local := by decide +kernel
theorem lk_pairs_at_NOUGHT : (defScope s_pairs_at).names.lookup ("NOUGHT" : Str) = some .globalImplicit := by decide +kernel
theorem lk_pairs_at_worth : (defScope s_pairs_at).names.lookup ("worth" : Str) = some .globalImplicit := by decide +kernel
theorem ok_pairs_at {ff fg CB aN fDW fDP fDT : Addr} {df dg dDW dDP dDT : FuncData} {dV : Value} {ds : List Value} (F : Fun K "pairs_at" "pairs_at" s_pairs_at f fd) (B : Blt mg) (C : Cst K mg aN) (D : DefD K mg "fraction" s_fraction dV ff df ["top", "bottom"] ds) (G : DefAt K mg "greatest_divisor" s_greatest_divisor fg dg ["one", "other"]) (X : BadF K mg CB) (DP : DefAt K mg "plus" s_plus fDP dDP ["one", "other"]) (DT : DefAt K mg "times" s_times fDT dDT ["one", "other"]) (DW : DefAt K mg "worth" s_worth fDW dDW ["one", "values"]) : FnOk P w K mg base CX0 6 f fd ["pairs", "values"] (spPA K) := by
  have OW : FnOk P w K mg base CX0 5 fDW dDW ["one", "values"] (spWorth K) := ok_worth (aN := aN) (aO := aN) DW.F B D G X DP DT
  refine F.ok sc_pairs_at (fun vs H Q E h => ?_) (fun cdv A outer s H vs Q E hr h => ?_)
  · obtain ⟨_, _, _, _, _, rfl, _⟩ := h
    rfl
  obtain ⟨u, w0, ps, fs, vals, rfl, hu, hp, hw, pv1, gv, k⟩ := h
  have nd := sc_pairs_at.nd
  refine ⟨_, pss_one (ps_ret (pe_call OW hr lk_pairs_at_worth DW.m DW.F.kp DW.b .nil pass0 (pa_Tuple (pe_tup (pa_Name (pe_glob (v := .ref aN) lk_pairs_at_NOUGHT C.mN rfl) (pa_Name (pv 0 rfl (Or.inl lk_pairs_at_pairs)) pa_nil))) (pa_Name (pv 1 rfl (Or.inl lk_pairs_at_values)) pa_nil)))), ?_⟩
  refine ⟨_, rfl, ?_⟩
  refine ⟨(by show 2 ≤ sizeLine; decide), fun p hz_p => ?_⟩
  generalize hH_ : upd _ p _ = H1
  obtain ⟨s1, e1⟩ := upd_new hH_ hz_p
  clear hH_
  refine ⟨_, rfl, _, w0, ((0, 1), ps), fs, vals, rfl, ⟨p, _, _, rfl, e1, ⟨aN, rfl, C.fN _⟩, hu.same s1⟩, hp.wf, .inr (s1.seqT hw), fs_same s1 pv1, gv, fun m hm => (hp.p m hm).2.2.2, fun r H2 s2 f2 => ?_⟩
  exact k r H2 (s1.trans s2) f2 (wrt_gd (n := 0) gv 1 ps (0, 1) (fun m hm => ⟨(hp.p m hm).1, (hp.p m hm).2.2⟩) (gd_one (by decide)))
def rowT (z : Str) (a : Fq) : Str := z ++ Str.ofString " = " ++ shT a
def spVR (K : PySem.W.Frag) : Sp := fun vs H Q _ => ∃ z v a, vs = [.str z, v] ∧ z.length ≤ 1000 ∧ IsF K H v a ∧ Gd 1500 a ∧ Q (.str (rowT z a)) H
theorem sc_value_row : FnScope ["label", "value", "shown"] ["label", "value"] (defScope s_value_row) := ⟨rfl, rfl, rfl, by decide +kernel, rfl, by decide +kernel, by decide +kernel⟩
theorem lk_value_row_label : (defScope s_value_row).names.lookup ("label" : Str) = some .local := by decide +kernel
theorem lk_value_row_value : (defScope s_value_row).names.lookup ("value" : Str) = some .local := by decide +kernel
theorem lk_value_row_shown : (defScope s_value_row).names.lookup ("shown" : Str) = some .local := by decide +kernel
theorem lk_value_row_shown_fraction : (defScope s_value_row).names.lookup ("shown_fraction" : Str) = some .globalImplicit := by decide +kernel
theorem ok_value_row {fDS : Addr} {dDS : FuncData} (F : Fun K "value_row" "value_row" s_value_row f fd) (B : Blt mg) (DS : DefAt K mg "shown_fraction" s_shown fDS dDS ["one"]) : FnOk P w K mg base CX0 2 f fd ["label", "value"] (spVR K) := by
  have OS : FnOk P w K mg base CX0 1 fDS dDS ["one"] (spShown K) := ok_shown DS.F
  refine F.ok sc_value_row (fun vs H Q E h => ?_) (fun cdv A outer s H vs Q E hr h => ?_)
  · obtain ⟨_, _, _, rfl, _⟩ := h
    rfl
  obtain ⟨z, v, a, rfl, hz, hv, ga, k⟩ := h
  have nd := sc_value_row.nd
  have l1 := shT_len ga.2
  have l2 : (Str.ofString " = ").length = 3 := by decide
  refine ⟨_, pss_cons (ps_set (i := 2) nd rfl (Or.inl lk_value_row_shown) (pe_call OS hr lk_value_row_shown_fraction DS.m DS.F.kp DS.b .nil pass0 (pa_Name (pv 1 rfl (Or.inl lk_value_row_value)) pa_nil)))
    (pss_one (ps_ret (pe_join (pj_cons (pe_fmS (pv 0 rfl (Or.inl lk_value_row_label))) (pj_cons (pe_str) (pj_cons (pe_fmS (pv 2 rfl (Or.inl lk_value_row_shown))) (pj_nil))))))), ?_⟩
  refine ⟨_, rfl, v, a, rfl, hv, ga, ?_⟩
  refine ⟨_, rfl, z, rfl, (by rw [sizeLine_eq]; omega), _, rfl, ?_, _, rfl, ?_, _, rfl, shT a, rfl, (by rw [sizeLine_eq]; omega), _, rfl, ?_, ?_⟩
  · show (Str.empty ++ z).length ≤ sizeLine
    rw [empty_app, sizeLine_eq]; omega
  · show (Str.empty ++ z ++ Str.ofString " = ").length ≤ sizeLine
    rw [empty_app, app_len, sizeLine_eq]; omega
  · show (Str.empty ++ z ++ Str.ofString " = " ++ shT a).length ≤ sizeLine
    rw [empty_app, app_len, app_len, sizeLine_eq]; omega
  · show Q (.str (Str.empty ++ z ++ Str.ofString " = " ++ shT a)) H
    rw [empty_app]; exact k
end
end Pw


set_option Elab.async false
set_option linter.all false
set_option maxRecDepth 100000
set_option maxHeartbeats 4000000
namespace Pw
open PySem L2
seal PE PT PW PA PS PSs PG PGs PI PIf PO PJ
section
variable {P : Program} {w : World} {K : PySem.W.Frag} {mg : Str → Option Value} {base : Heap} {f : Addr} {fd : FuncData}
def spCell (K : PySem.W.Frag) : Sp := fun vs H Q _ => ∃ (a : Addr) (ns : List Int) (k : Int), vs = [.ref a, .int k] ∧ SqL K H a (ns.map V.int) ∧ (∀ i ∈ ns, Few i) ∧ 0 ≤ k ∧ ∀ n : Int, Few n → Q (.int n) H
theorem sc_lat : FnScope ["_law_script", "_law_k"] ["_law_script", "_law_k"] (defScope s_lat) := ⟨rfl, rfl, rfl, by decide +kernel, rfl, by decide +kernel, by decide +kernel⟩
theorem ok_lat (F : Fun K "_law_at" "_law_at" s_lat f fd) (B : Blt mg) : FnOk P w K mg base CX0 1 f fd ["_law_script", "_law_k"] (spCell K) := by
  refine F.ok sc_lat (fun vs H Q E h => ?_) (fun cdv A outer s H vs Q E hr h => ?_)
  · obtain ⟨a, ns, k, rfl, _⟩ := h
    rfl
  obtain ⟨a, ns, k, rfl, hS, few, hk, q⟩ := h
  refine ⟨_, pss_cons (ps_if (pt_cmpR op_lt (pv 1) (pe_callB call_len_seq rfl B.len bt_len (pa_cons (pv 0) pa_nil)) (nomark _)) (pss_one (ps_ret (pe_ix ix_list (pv 0) (pv 1) (fun _ _ => rfl)))) pss_nil) (pss_one (ps_ret pe_int)), ?_⟩
  refine ⟨_, rfl, _, rfl, a, _, rfl, .inl hS, _, _, rfl, rfl, _, rfl, ?_⟩
  refine ite2 (fun c => ?_) (fun c => ?_)
  · have c' : k < (((ns.map V.int).length : Nat) : Int) := of_decide_eq_true c
    rw [List.length_map] at c'
    have hk' : k.toNat < ns.length := by omega
    have ek : k = ((k.toNat : Nat) : Int) := by omega
    have z : atI (ns.map V.int) ((k.toNat : Nat) : Int) = some (.int ns[k.toNat]) := atI_nat (by rw [List.getElem?_map, List.getElem?_eq_getElem hk'] <;> rfl)
    rw [← ek] at z
    exact ⟨_, rfl, _, rfl, a, _, _, _, rfl, rfl, hS, z, q _ (few _ (List.getElem_mem hk'))⟩
  · exact q 0 (by unfold Few; decide)
def spMixed : Sp := fun vs H Q _ => ∃ c k : Int, vs = [.int c, .int k] ∧ Few c ∧ 0 ≤ k ∧ k ≤ 1000 ∧ ∀ n : Int, 0 ≤ n → n < 2147483647 → Q (.int n) H
theorem sc_mixed : FnScope ["_law_cell", "_law_k", "_law_number"] ["_law_cell", "_law_k"] (defScope s_mixed) := ⟨rfl, rfl, rfl, by decide +kernel, rfl, by decide +kernel, by decide +kernel⟩
theorem ok_mixed (F : Fun K "_law_mixed" "_law_mixed" s_mixed f fd) : FnOk P w K mg base CX0 1 f fd ["_law_cell", "_law_k"] spMixed := by
  refine F.ok sc_mixed (fun vs H Q E h => ?_) (fun cdv A outer s H vs Q E hr h => ?_)
  · obtain ⟨c, k, rfl, _⟩ := h
    rfl
  obtain ⟨c, k, rfl, few, k0, k1, q⟩ := h
  have nd := sc_mixed.nd
  refine ⟨_, pss_cons (ps_set (i := 2) nd rfl (Or.inl rfl) (pe_op op_add (pe_op op_add (pv 0) (pe_op op_mul (pe_int) (pv 1))) (pe_int)))
    (pss_one (ps_ret (pe_op op_mod (pe_op op_mul (pe_op op_mod (pe_op op_mulF (pv 2) (pv 2)) (pe_int)) (pe_int)) (pe_int)))), ?_⟩
  refine ⟨_, rfl, _, rfl, _, _, rfl, rfl, .inl ⟨by decide, by decide⟩, _, _, rfl, rfl, _, _, rfl, rfl, ?_⟩
  have hb : ∃ z : Nat, z ≤ 1048580 ∧ (c + 7919 * k + 3).natAbs < 2 ^ z := by
    rw [Int.add_assoc]
    exact few_add few (by omega)
  dsimp only
  try dsimp only
  generalize c + 7919 * k + 3 = n at hb ⊢
  refine ⟨_, rfl, _, rfl, _, _, rfl, rfl, (hb.elim fun z h => ⟨z, h.1, h.2, h.2⟩), _, _, rfl, rfl, (by show (0 : Int) < 2147483647; decide), _, _, rfl, rfl, .inr ⟨by decide, by decide⟩, _, _, rfl, rfl, (by show (0 : Int) < 2147483647; decide), q _ ?_ ?_⟩
  · exact Int.emod_nonneg _ (by decide)
  · exact Int.emod_lt_of_pos _ (by decide)
theorem fmod_sub (x y : Int) : x - x.fdiv y * y = x.fmod y := by rw [Int.fmod_def, Int.mul_comm]
def spLes (K : PySem.W.Frag) : Sp := fun vs H Q _ => ∃ t b : Int, vs = [.int t, .int b] ∧ 0 < b ∧ b.natAbs < BIG ∧ t.natAbs < BIG ∧ ∀ r H', Same H H' → IsF K H' r (mkF t b) → Q r H'
theorem big_pow {n : Nat} (h : n < BIG) : n < 2 ^ 8000 := h
theorem sc_lesser : FnScope ["_law_top", "_law_bottom", "_law_one", "_law_other"] ["_law_top", "_law_bottom"] (defScope s_lesser) := ⟨rfl, rfl, rfl, by decide +kernel, rfl, by decide +kernel, by decide +kernel⟩
theorem lk_lesser__law_top : (defScope s_lesser).names.lookup ("_law_top" : Str) = some .local := by decide +kernel
theorem lk_lesser__law_bottom : (defScope s_lesser).names.lookup ("_law_bottom" : Str) = some .local := by decide +kernel
theorem lk_lesser__law_one : (defScope s_lesser).names.lookup ("_law_one" : Str) = some .local := by decide +kernel
theorem lk_lesser__law_other : (defScope s_lesser).names.lookup ("_law_other" : Str) = some .local := by decide +kernel
theorem lk_lesser_abs : (defScope s_lesser).names.lookup ("abs" : Str) = some .globalImplicit := by decide +kernel
theorem ok_lesser (F : Fun K "_law_lesser" "_law_lesser" s_lesser f fd) (B : Blt mg) : FnOk P w K mg base CX0 1 f fd ["_law_top", "_law_bottom"] (spLes K) := by
  refine F.ok sc_lesser (fun vs H Q E h => ?_) (fun cdv A outer s H vs Q E hr h => ?_)
  · obtain ⟨_, _, rfl, _⟩ := h
    rfl
  obtain ⟨t, b, rfl, hb, bb, bt, q⟩ := h
  have nd := sc_lesser.nd
  refine ⟨_, pss_cons (ps_par (i := 2) (j := 3) rfl nd rfl rfl (by decide) lk_lesser__law_one lk_lesser__law_other (pa_Call (pe_callB call_abs lk_lesser_abs B.abs bt_abs (pa_Name (pv 0 rfl (Or.inl lk_lesser__law_top)) pa_nil)) (pa_Name (pv 1 rfl (Or.inl lk_lesser__law_bottom)) pa_nil)) rfl)
    (pss_cons (ps_while PassesOwn.never (pt_cmpR op_gt (pv 3 rfl (Or.inl lk_lesser__law_other)) (pe_int) (nomark _)) (pss_one (ps_par (i := 2) (j := 3) rfl nd rfl rfl (by decide) lk_lesser__law_one lk_lesser__law_other (pa_Name (pv 3 rfl (Or.inl lk_lesser__law_other)) (pa_BinOp (pe_op op_sub (pv 2 rfl (Or.inl lk_lesser__law_one)) (pe_op op_mulF (pe_op op_fdivB (pv 2 rfl (Or.inl lk_lesser__law_one)) (pv 3 rfl (Or.inl lk_lesser__law_other))) (pv 3 rfl (Or.inl lk_lesser__law_other)))) pa_nil)) rfl)))
    (pss_one (ps_ret (pe_tup (pa_BinOp (pe_op op_fdivB (pv 0 rfl (Or.inl lk_lesser__law_top)) (pv 2 rfl (Or.inl lk_lesser__law_one))) (pa_BinOp (pe_op op_fdivB (pv 1 rfl (Or.inl lk_lesser__law_bottom)) (pv 2 rfl (Or.inl lk_lesser__law_one))) pa_nil)))))), ?_⟩
  refine ⟨_, rfl, t, rfl, _, rfl, _, _, rfl, ?_⟩
  have ha : 0 ≤ (if t < 0 then -t else t) := abs_nonneg t
  have eg0 : gd (if t < 0 then -t else t) b = gd t b := gd_abs t b
  have ba : (if t < 0 then -t else t).natAbs < BIG := by
    have : (if t < 0 then -t else t).natAbs = t.natAbs := by split <;> omega
    rw [this]; exact bt
  try dsimp only
  generalize (if t < 0 then -t else t) = a at ha eg0 ba ⊢
  refine ⟨fun m σ H' => H' = H ∧ ∃ (x y : Int), σ = [some (.int t), some (.int b), some (.int x), some (.int y)] ∧ 0 ≤ x ∧ 0 ≤ y ∧ gd x y = gd t b ∧ x.natAbs < BIG ∧ y.natAbs < BIG ∧ m = y.toNat, ⟨b.toNat, rfl, a, b, rfl, ha, by omega, eg0, ba, bb, rfl⟩, ?_⟩
  rintro m σ H' ⟨rfl, x, y, rfl, hx, hy, eg, bx, bv, rfl⟩
  refine ⟨_, rfl, _, _, rfl, rfl, _, rfl, ?_⟩
  by_cases h0 : y = 0
  · subst h0
    refine iteN (decide_eq_false (by omega)) ?_
    rw [gd_zero hx] at eg
    subst eg
    have gp : 0 < gd t b := gd_pos hb
    refine ⟨_, rfl, _, rfl, _, _, rfl, rfl, ⟨by omega, log2_of bx⟩, _, rfl, _, rfl, _, _, rfl, rfl, ⟨by omega, log2_of bx⟩, ?_⟩
    refine ⟨(by show 2 ≤ sizeLine; decide), fun p hz_p => ?_⟩
    generalize hH_ : upd _ p _ = H1
    obtain ⟨s1, e1⟩ := upd_new hH_ hz_p
    clear hH_
    refine q _ H1 s1 ⟨p, rfl, SqT.of ?_⟩
    rw [← low_mk hb]
    exact e1
  · have yp : 0 < y := by omega
    refine iteY (decide_eq_true yp) ?_
    refine ⟨fun σ' H2 => H2 = H' ∧ σ' = [some (.int t), some (.int b), some (.int y), some (.int (x.fmod y))], ?_, ?_⟩
    · rintro σ' H2 ⟨rfl, rfl⟩
      have m1 := Int.fmod_nonneg_of_pos x yp
      have m2 := Int.fmod_lt_of_pos x yp
      exact ⟨(x.fmod y).toNat, by omega, rfl, y, x.fmod y, rfl, hy, m1, by rw [gd_step hx yp]; exact eg, bv, Nat.lt_of_le_of_lt (by omega) bv, rfl⟩
    · have dl : (x.fdiv y).natAbs < BIG := by
        have : (x.fdiv y).natAbs ≤ x.natAbs := by
          rw [Int.fdiv_eq_ediv_of_nonneg _ hy]
          exact Int.natAbs_ediv_le_natAbs x y
        exact Nat.lt_of_le_of_lt this bx
      refine ⟨_, rfl, _, rfl, _, rfl, _, rfl, x, y, rfl, rfl, ⟨h0, log2_of bv⟩, _, rfl, _, _, rfl, rfl, ⟨8000, by decide, big_pow dl, big_pow bv⟩, _, _, rfl, rfl, _, _, rfl, rfl, ?_⟩
      show [some (V.int t), some (V.int b), some (V.int y), some (V.int (x - x.fdiv y * y))] = _
      rw [fmod_sub]
theorem vmem {P' : Int → Prop} {xs : List V} (h : ∀ x ∈ xs, ∃ i, x = .int i ∧ P' i) {v : V} (hv : v ∈ xs) : ∃ i, v = .int i ∧ P' i := h v hv
def spFr (K : PySem.W.Frag) : Sp := fun vs H Q _ => ∃ c : Int, vs = [.int c] ∧ ∀ r a H', Same H H' → IsF K H' r a → Gd 40 a → Q r H'
theorem sc_lfrac : FnScope ["_law_cell", "_law_bottom", "_law_top"] ["_law_cell"] (defScope s_lfrac) := ⟨rfl, rfl, rfl, by decide +kernel, rfl, by decide +kernel, by decide +kernel⟩
theorem lk_lfrac__law_cell : (defScope s_lfrac).names.lookup ("_law_cell" : Str) = some .local := by decide +kernel
theorem lk_lfrac__law_bottom : (defScope s_lfrac).names.lookup ("_law_bottom" : Str) = some .local := by decide +kernel
theorem lk_lfrac__law_top : (defScope s_lfrac).names.lookup ("_law_top" : Str) = some .local := by decide +kernel
theorem lk_lfrac__law_lesser : (defScope s_lfrac).names.lookup ("_law_lesser" : Str) = some .globalImplicit := by decide +kernel
theorem ok_lfrac {fDL : Addr} {dDL : FuncData} (F : Fun K "_law_fraction" "_law_fraction" s_lfrac f fd) (B : Blt mg) (DL : DefAt K mg "_law_lesser" s_lesser fDL dDL ["_law_top", "_law_bottom"]) : FnOk P w K mg base CX0 2 f fd ["_law_cell"] (spFr K) := by
  have OL : FnOk P w K mg base CX0 1 fDL dDL ["_law_top", "_law_bottom"] (spLes K) := ok_lesser DL.F B
  refine F.ok sc_lfrac (fun vs H Q E h => ?_) (fun cdv A outer s H vs Q E hr h => ?_)
  · obtain ⟨_, rfl, _⟩ := h
    rfl
  obtain ⟨c, rfl, q⟩ := h
  have nd := sc_lfrac.nd
  refine ⟨_, pss_cons (ps_set (i := 1) nd rfl (Or.inl lk_lfrac__law_bottom) (pe_ix ix_list (pe_lst (pa_Constant (pe_int) (pa_Constant (pe_int) (pa_Constant (pe_int) (pa_Constant (pe_int) (pa_Constant (pe_int) (pa_Constant (pe_int) pa_nil))))))) (pe_op op_mod (pv 0 rfl (Or.inl lk_lfrac__law_cell)) (pe_int)) (fun _ _ => rfl)))
    (pss_cons (ps_set (i := 2) nd rfl (Or.inl lk_lfrac__law_top) (pe_op op_mod (pe_op op_fdiv (pv 0 rfl (Or.inl lk_lfrac__law_cell)) (pe_int)) (pe_ix ix_list (pe_lst (pa_Constant (pe_int) (pa_Constant (pe_int) (pa_BinOp (pe_op op_pow (pe_int) (pe_int)) pa_nil)))) (pe_op op_mod (pe_op op_fdiv (pv 0 rfl (Or.inl lk_lfrac__law_cell)) (pe_int)) (pe_int)) (fun _ _ => rfl))))
    (pss_one (ps_ret (pe_call OL hr lk_lfrac__law_lesser DL.m DL.F.kp DL.b .nil pass0 (pa_BinOp (pe_op op_mul (pe_ix ix_list (pe_lst (pa_Constant (pe_int) (pa_UnaryOp (pe_un un_neg (pe_int)) pa_nil))) (pe_op op_mod (pe_op op_fdiv (pv 0 rfl (Or.inl lk_lfrac__law_cell)) (pe_int)) (pe_int)) (fun _ _ => rfl)) (pv 2 rfl (Or.inl lk_lfrac__law_top))) (pa_Name (pv 1 rfl (Or.inl lk_lfrac__law_bottom)) pa_nil)))))), ?_⟩
  refine ⟨(by show 6 ≤ sizeLine; decide), fun l1 hz_l1 => ?_⟩
  generalize hH_ : upd _ l1 _ = H1
  obtain ⟨s1, e1⟩ := upd_new hH_ hz_l1
  clear hH_
  obtain ⟨v1, ev1, m1⟩ := pickL (xs := [V.int 1, .int 1, .int 2, .int 3, .int 12, .int 999]) (n := 6) rfl (by decide) c
  obtain ⟨bo, rfl, hb⟩ := vmem (P' := fun i => 0 < i ∧ i ≤ 999) (by intro x hx; simp only [List.mem_cons, List.not_mem_nil, or_false] at hx; rcases hx with rfl | rfl | rfl | rfl | rfl | rfl <;> exact ⟨_, rfl, by decide, by decide⟩) m1
  refine ⟨_, rfl, _, _, rfl, rfl, (by show (0 : Int) < 6; decide), l1, _, _, _, rfl, rfl, SqL.of e1, ev1, ?_⟩
  refine ⟨_, rfl, _, _, rfl, rfl, ⟨by decide, by decide⟩, ?_⟩
  refine ⟨_, _, rfl, rfl, ⟨by decide, by decide, by decide⟩, ?_⟩
  refine ⟨(by show 3 ≤ sizeLine; decide), fun l2 hz_l2 => ?_⟩
  generalize hH_ : upd _ l2 _ = H2
  obtain ⟨s2, e2⟩ := upd_new hH_ hz_l2
  clear hH_
  obtain ⟨v2, ev2, m2⟩ := pickL (xs := [V.int 10, .int 1000, .int ((10 : Int) ^ (9 : Int).toNat)]) (n := 3) rfl (by decide) (c / 4000)
  obtain ⟨sz, rfl, hs⟩ := vmem (P' := fun i => 0 < i ∧ i ≤ 1000000000) (by intro x hx; simp only [List.mem_cons, List.not_mem_nil, or_false] at hx; rcases hx with rfl | rfl | rfl <;> exact ⟨_, rfl, by decide, by decide⟩) m2
  refine ⟨_, rfl, _, _, rfl, rfl, ⟨by decide, by decide⟩, _, _, rfl, rfl, (by show (0 : Int) < 3; decide), l2, _, _, _, rfl, rfl, SqL.of e2, ev2, ?_⟩
  refine ⟨_, sz, rfl, rfl, hs.1, ?_⟩
  have t0 : 0 ≤ c / 6 % sz := Int.emod_nonneg _ (by omega)
  have t1 : c / 6 % sz < sz := Int.emod_lt_of_pos _ hs.1
  try dsimp only
  generalize c / 6 % sz = tp at t0 t1 ⊢
  refine ⟨_, rfl, ?_⟩
  refine ⟨(by show 2 ≤ sizeLine; decide), fun l3 hz_l3 => ?_⟩
  generalize hH_ : upd _ l3 _ = H3
  obtain ⟨s3, e3⟩ := upd_new hH_ hz_l3
  clear hH_
  obtain ⟨v3, ev3, m3⟩ := pickL (xs := [V.int 1, .int (-1)]) (n := 2) rfl (by decide) (c / 12000)
  obtain ⟨sg, rfl, hg⟩ := vmem (P' := fun i => i = 1 ∨ i = -1) (by intro x hx; simp only [List.mem_cons, List.not_mem_nil, or_false] at hx; rcases hx with rfl | rfl; exact ⟨_, rfl, .inl rfl⟩; exact ⟨_, rfl, .inr rfl⟩) m3
  refine ⟨_, rfl, _, _, rfl, rfl, ⟨by decide, by decide⟩, _, _, rfl, rfl, (by show (0 : Int) < 2; decide), l3, _, _, _, rfl, rfl, SqL.of e3, ev3, ?_⟩
  refine ⟨_, rfl, _, _, rfl, rfl, .inl ⟨by omega, by omega⟩, ?_⟩
  have hsg : (sg * tp).natAbs < 2 ^ 40 := by
    rcases hg with rfl | rfl
    · rw [Int.one_mul]; omega
    · rw [Int.neg_mul, Int.one_mul]; omega
  have hbo : bo.natAbs < 2 ^ 40 := by omega
  have b0 : bo ≠ 0 := by omega
  refine ⟨_, rfl, _, _, rfl, hb.1, lt_big hbo (by decide), lt_big hsg (by decide), fun r H4 s4 f4 => ?_⟩
  exact q r _ H4 (s1.trans (s2.trans (s3.trans s4))) f4 ⟨mk_red b0, Nat.lt_of_le_of_lt (ft_abs b0) hsg, Nat.lt_of_le_of_lt (fb_abs b0) hbo⟩
end
end Pw


set_option Elab.async false
set_option linter.all false
set_option maxRecDepth 100000
set_option maxHeartbeats 4000000
namespace Pw
open PySem L2
seal PE PT PW PA PS PSs PG PGs PI PIf PO PJ
abbrev cL : Str := "abcdefghijklmnopqrstuvwxyz"
theorem cL_tx : cL.cps.toList.length = 26 ∧ ∀ c ∈ cL.cps.toList, c < 128 := by decide +kernel
theorem sum_len {zs : List Str} (h : ∀ z ∈ zs, Tx 1 z) : (zs.map (·.length)).sum ≤ zs.length := by
  induction zs with
  | nil => exact Nat.le_refl _
  | cons z zs ih =>
    rw [List.map_cons, List.sum_cons, List.length_cons]
    have := (h z (.head _)).len
    have := ih fun x hx => h x (.tail _ hx)
    omega
theorem rng_at {n i : Nat} {x : V} (h : ((List.range n).map fun (k : Nat) => V.int (0 + k))[i]? = some x) : x = .int (0 + (i : Int)) ∧ i < n := by
  rw [List.getElem?_map] at h
  by_cases hi : i < n
  · rw [List.getElem?_range hi] at h
    exact ⟨(Option.some.inj h).symm, hi⟩
  · rw [List.getElem?_eq_none (by simpa using hi)] at h
    cases h
theorem set_last {α : Type} (xs : List α) (a b : α) : (xs ++ [a]).set xs.length b = xs ++ [b] := by
  induction xs with
  | nil => rfl
  | cons x xs ih => rw [List.cons_append, List.length_cons, List.set_cons_succ, ih, List.cons_append]
theorem ix_last {n : Nat} : ixN (n + 1) (-1) = some n := by
  unfold ixN
  rw [if_neg (by decide), if_pos (by omega)]
  congr 1
  omega
theorem strs4 : ∀ v ∈ ([.str "", .str "(mon)", .str "(mon, tue)", .str "(tue, mon)"] : List V), ∃ z : Str, v = .str z ∧ Tx 10 z := by
  intro v hv
  simp only [List.mem_cons, List.not_mem_nil, or_false] at hv
  rcases hv with rfl | rfl | rfl | rfl <;> exact ⟨_, rfl, by decide +kernel, by decide +kernel⟩
section
variable {P : Program} {w : World} {K : PySem.W.Frag} {mg : Str → Option Value} {base : Heap} {f : Addr} {fd : FuncData}
def spLab : Sp := fun vs H Q _ => ∃ c n : Int, vs = [.int c, .int n] ∧ 0 ≤ n ∧ n ≤ 4 ∧ ∀ (p : Addr) (zs : List Str) (H' : Hp), Same H H' → H' p = some (.lst (zs.map V.str)) → zs.length = n.toNat → (∀ z ∈ zs, Tx 30 z) → Q (.ref p) H'
theorem sc_labels : FnScope ["_law_cell", "_law_many", "_law_letters", "_law_alike", "_law_at_here", "_law_keys", "_law_found", "_law_k"] ["_law_cell", "_law_many"] (defScope s_labels) := ⟨rfl, rfl, rfl, by decide +kernel, rfl, by decide +kernel, by decide +kernel⟩
theorem lk_labels__law_cell : (defScope s_labels).names.lookup ("_law_cell" : Str) = some .cell := by decide +kernel
theorem lk_labels__law_many : (defScope s_labels).names.lookup ("_law_many" : Str) = some .local := by decide +kernel
theorem lk_labels__law_letters : (defScope s_labels).names.lookup ("_law_letters" : Str) = some .cell := by decide +kernel
theorem lk_labels__law_alike : (defScope s_labels).names.lookup ("_law_alike" : Str) = some .local := by decide +kernel
theorem lk_labels__law_at_here : (defScope s_labels).names.lookup ("_law_at_here" : Str) = some .local := by decide +kernel
theorem lk_labels__law_keys : (defScope s_labels).names.lookup ("_law_keys" : Str) = some .local := by decide +kernel
theorem lk_labels__law_found : (defScope s_labels).names.lookup ("_law_found" : Str) = some .local := by decide +kernel
theorem lk_labels__law_k : (defScope s_labels).names.lookup ("_law_k" : Str) = some .local := by decide +kernel
theorem lk_labels_len : (defScope s_labels).names.lookup ("len" : Str) = some .globalImplicit := by decide +kernel
theorem lk_labels_range : (defScope s_labels).names.lookup ("range" : Str) = some .globalImplicit := by decide +kernel
theorem ok_labels (F : Fun K "_law_labels" "_law_labels" s_labels f fd) (B : Blt mg) : FnOk P w K mg base CX0 1 f fd ["_law_cell", "_law_many"] spLab := by
  refine F.ok sc_labels (fun vs H Q E h => ?_) (fun cdv A outer s H vs Q E hr h => ?_)
  · obtain ⟨_, _, rfl, _⟩ := h
    rfl
  obtain ⟨c, n, rfl, n0, n4, q⟩ := h
  have nd := sc_labels.nd
  refine ⟨_, pss_cons (ps_set (i := 2) nd rfl (Or.inr lk_labels__law_letters) (pe_str))
    (pss_cons (ps_set (i := 3) nd rfl (Or.inl lk_labels__law_alike) (pe_bm PySem.F.plainAttrs_str PySem.F.slot_str_join PySem.F.type_str_join mt_join (pe_str) (pa_ListComp (pe_comp rfl (frees_of ["_law_k"] [("_law_letters", 2), ("_law_cell", 0)] ["_law_cell", "_law_many", "_law_letters", "_law_alike", "_law_at_here", "_law_keys", "_law_found", "_law_k"] (by decide +kernel)) (visC s_labels (by decide +kernel)) (by decide +kernel) rfl (by decide +kernel) (fun y hy => PySem.mem_of_lookup hy) (pi_range1 lk_labels_range B.range (pa_BinOp (pe_op op_mod (pe_op op_fdiv (pv 0 rfl (Or.inr (Or.inl lk_labels__law_cell))) (pe_int)) (pe_int)) pa_nil)) (fun cl C s H fp pins => pg_name (i := 0) (show (["_law_k", "_law_letters", "_law_cell"] : List Str).Nodup by decide +kernel) rfl (Or.inl (c_loc (by decide +kernel))) (.inr (c_loc (by decide +kernel)))) (fun cl C s H fp pins => pif_nil) (fun cl C s H fp pins => pe_ix ix_str (pv 1 rfl (c_free (by decide +kernel))) (pe_op op_mod (pe_op op_add (pv 2 rfl (c_free (by decide +kernel))) (pe_op op_mul (pe_int) (pv 0 rfl (c_vloc (by decide +kernel))))) (pe_int)) (fun _ _ => rfl))) pa_nil)))
    (pss_cons (ps_set (i := 4) nd rfl (Or.inl lk_labels__law_at_here) (pe_op op_mod (pe_op op_fdiv (pv 0 rfl (Or.inr (Or.inl lk_labels__law_cell))) (pe_int)) (pe_op op_add (pe_callB call_len_str lk_labels_len B.len bt_len (pa_Name (pv 3 rfl (Or.inl lk_labels__law_alike)) pa_nil)) (pe_int))))
    (pss_cons (ps_set (i := 5) nd rfl (Or.inl lk_labels__law_keys) (pe_lst (pa_Constant (pe_str) (pa_Constant (pe_str) (pa_Constant (pe_str) (pa_Constant (pe_str) pa_nil))))))
    (pss_cons (ps_set (i := 6) nd rfl (Or.inl lk_labels__law_found) (pe_lst pa_nil))
    (pss_cons (ps_for PassesOwn.never rfl (pi_range1 lk_labels_range B.range (pa_Name (pv 1 rfl (Or.inl lk_labels__law_many)) pa_nil)) (pg_name (i := 7) nd rfl (Or.inl lk_labels__law_k)) (pss_cons (ps_expr (pe_bm PySem.F.plainAttrs_list PySem.F.slot_list_append PySem.F.type_list_append mt_append (pv 6 rfl (Or.inl lk_labels__law_found)) (pa_BinOp (pe_op op_add_str (pe_op op_add_str (pe_slice sl_str (pv 3 rfl (Or.inl lk_labels__law_alike)) (po_none) (po_some (pv 4 rfl (Or.inl lk_labels__law_at_here)))) (pe_ix ix_str (pe_str) (pv 7 rfl (Or.inl lk_labels__law_k)) (fun _ _ => rfl))) (pe_slice sl_str (pv 3 rfl (Or.inl lk_labels__law_alike)) (po_some (pv 4 rfl (Or.inl lk_labels__law_at_here))) (po_none))) pa_nil)))
    (pss_one (ps_asg (pe_op op_add_str (pe_ix ix_list (pv 6 rfl (Or.inl lk_labels__law_found)) (pe_un un_neg (pe_int)) (fun _ _ => rfl)) (pe_ix ix_list (pv 5 rfl (Or.inl lk_labels__law_keys)) (pe_op op_mod (pe_op op_fdivB (pv 0 rfl (Or.inr (Or.inl lk_labels__law_cell))) (pe_op op_add (pe_int) (pv 7 rfl (Or.inl lk_labels__law_k)))) (pe_int)) (fun _ _ => rfl))) (pg_sub (pv 6 rfl (Or.inl lk_labels__law_found)) (pe_un un_neg (pe_int)) set_list)))))
    (pss_one (ps_ret (pv 6 rfl (Or.inl lk_labels__law_found))))))))), ?_⟩
  have m0 := Int.emod_nonneg (c / 26) (show (8 : Int) ≠ 0 by decide)
  have m1 := Int.emod_lt_of_pos (c / 26) (show (0 : Int) < 8 by decide)
  refine ⟨rfl, _, rfl, _, _, rfl, rfl, ⟨by decide, by decide⟩, _, _, rfl, rfl, (by show (0 : Int) < 8; decide), c / 26 % 8, rfl, by omega, by omega, fun D hD => ?_⟩
  try dsimp only
  generalize c / 26 % 8 = m at m0 m1 ⊢
  refine comp_same (J := Itr 0 m.toNat) (xs := (List.range m.toNat).map fun (k : Nat) => V.int (0 + k)) hD (by simp [sizeLine_eq]; omega) goR stR yR (fun i ys σ G => (∃ k : Option V, σ = [k, some (.str cL), some (.int c)]) ∧ ∃ zs : List Str, zs.length = i ∧ (∀ z ∈ zs, Tx 1 z) ∧ ys = zs.map V.str)
    ⟨⟨none, rfl⟩, [], rfl, by simp, rfl⟩ (fun i x ys σ H1 hx hp eD sm Ry Rn r1 r2 => ?_) (fun ys σ H1 hp eD sm => ?_)
  · obtain ⟨rfl, hi⟩ := rng_at hx
    obtain ⟨⟨k, rfl⟩, zs, rfl, hzs, rfl⟩ := hp
    obtain ⟨d, ed, d128⟩ := pickC cL_tx.1 (by decide) cL_tx.2 (c + 7 * (0 + (zs.length : Int)))
    refine ⟨_, rfl, _, rfl, _, rfl, _, _, rfl, rfl, .inl ⟨by decide, by decide⟩, _, _, rfl, rfl, _, _, rfl, rfl, (by show (0 : Int) < 26; decide), cL, _, d, rfl, rfl, (by rw [sizeLine_eq]; decide), ed, r1 _ _ H1 (fun _ _ e => e) ⟨⟨_, rfl⟩, zs ++ [⟨#[d]⟩], by simp, fun z hz => ?_, by simp⟩⟩
    rcases List.mem_append.mp hz with h | h
    · exact hzs z h
    · rw [List.mem_singleton.mp h]
      exact Tx.one d128
  obtain ⟨_, zs, hl, hzs, rfl⟩ := hp
  rw [List.length_map, List.length_range] at hl
  have sH : Same H H1 := fun b o e => hid_le b o (sm b o e)
  have hsum := sum_len hzs
  refine ⟨"", D, zs, rfl, rfl, SqL.of eD, (by rw [show (Str.ofString "").length = 0 by decide]; omega), ?_⟩
  have ta : Tx 8 (Txt.join "" zs) := (join_tx hzs).mono (by omega)
  try dsimp only
  generalize Txt.join "" zs = al at ta ⊢
  have al8 := ta.len
  have als : al.length ≤ sizeLine := by rw [sizeLine_eq]; omega
  refine ⟨_, rfl, _, _, rfl, rfl, ⟨by decide, by decide⟩, _, rfl, al, rfl, als, _, _, rfl, rfl, _, _, rfl, rfl, (by show (0 : Int) < (al.length : Int) + 1; omega), ?_⟩
  try dsimp only
  generalize c / 208 % ((al.length : Int) + 1) = at'
  refine ⟨(by show 4 ≤ sizeLine; decide), fun kp hz_kp => ?_⟩
  generalize hH_ : upd _ kp _ = H2
  obtain ⟨s2, e2⟩ := upd_new hH_ hz_kp
  clear hH_
  refine ⟨(by show 0 ≤ sizeLine; decide), fun fp n3 => ?_⟩
  generalize hH_ : upd _ fp _ = H3
  obtain ⟨s3, e3⟩ := upd_new hH_ n3
  clear hH_
  have sB : Same H H2 := sH.trans s2
  refine ⟨_, rfl, n, rfl, by omega, by omega, ?_⟩
  refine for_range (fun i σ H' => ∃ (k : Option V) (zs : List Str), σ = [some (.int c), some (.int n), some (.str cL), some (.str al), some (.int at'), some (.ref kp), some (.ref fp), k] ∧ Same H2 H' ∧ H' fp = some (.lst (zs.map V.str)) ∧ zs.length = i ∧ ∀ z ∈ zs, Tx 30 z)
    ⟨none, [], rfl, s3, e3, rfl, by simp⟩ (fun i σ H' hi h => ?_) (fun σ H' h => ?_)
  · obtain ⟨k, zs, rfl, sm, ef, hl, hz⟩ := h
    obtain ⟨d, ed, d128⟩ : ∃ d, atI (Str.ofString "bcdfg").cps.toList (0 + (i : Int)) = some d ∧ d < 128 := by
      have : i < 4 := by omega
      rcases i with _ | _ | _ | _ | i
      · exact ⟨98, rfl, by decide⟩
      · exact ⟨99, rfl, by decide⟩
      · exact ⟨100, rfl, by decide⟩
      · exact ⟨102, rfl, by decide⟩
      · omega
    have tl := (ta.slice none (some at'))
    have tr := (ta.slice (some at') none)
    have l1 := tl.len
    have l2 := tr.len
    have l3 := app_len (Txt.slice al none (some at')) ⟨#[d]⟩
    have l4 : (⟨#[d]⟩ : Str).length = 1 := rfl
    refine ⟨_, rfl, .inl ⟨rfl, _, SqL.of ef⟩, ?_⟩
    refine ⟨_, rfl, _, rfl, _, rfl, al, rfl, als, _, rfl, _, _, d, rfl, rfl, (by rw [sizeLine_eq]; decide), ed, _, _, rfl, rfl, (by rw [l4, sizeLine_eq]; omega), ?_⟩
    refine ⟨_, rfl, _, rfl, _, rfl, al, rfl, als, _, _, rfl, rfl, (by rw [l3, l4, sizeLine_eq]; omega), ?_⟩
    refine ⟨fp, _, _, rfl, rfl, ef, (by rw [List.length_map, sizeLine_eq]; omega), ?_⟩
    have tz : Tx 17 (Txt.slice al none (some at') ++ ⟨#[d]⟩ ++ Txt.slice al (some at') none) := (tl.app (Tx.one d128)).app tr
    dsimp only
    try dsimp only
    generalize Txt.slice al none (some at') ++ ⟨#[d]⟩ ++ Txt.slice al (some at') none = z1 at tz ⊢
    have l5 := tz.len
    have e5 : upd H' fp (.lst (zs.map V.str ++ [.str z1])) fp = some (.lst (zs.map V.str ++ [.str z1])) := upd_same
    have s5 : Same H2 (upd H' fp (.lst (zs.map V.str ++ [.str z1]))) := same_upd sm n3
    try dsimp only
    generalize upd H' fp (.lst (zs.map V.str ++ [.str z1])) = H5 at e5 s5 ⊢
    obtain ⟨v, ev, hv⟩ := pickL (xs := [V.str "", .str "(mon)", .str "(mon, tue)", .str "(tue, mon)"]) (n := 4) rfl (by decide) (c.fdiv (7 + (0 + (i : Int))))
    obtain ⟨kz, rfl, kt⟩ := strs4 v hv
    have kl := kt.len
    refine ⟨_, rfl, _, rfl, fp, _, _, _, rfl, rfl, SqL.of e5, atI_last _ _, ?_⟩
    refine ⟨_, rfl, _, rfl, _, rfl, _, _, rfl, rfl, _, _, rfl, rfl, ⟨by omega, ?_⟩, _, _, rfl, rfl, (by show (0 : Int) < 4; decide), kp, _, _, _, rfl, rfl, SqL.of (s5 _ _ e2), ev, ?_⟩
    · exact log_of (k := 10) (m := 9000) (by omega) (by decide) (by decide)
    refine ⟨_, _, rfl, rfl, (by rw [sizeLine_eq]; omega), ?_⟩
    refine ⟨_, rfl, _, rfl, fp, _, _, _, rfl, rfl, e5, (by rw [List.length_append]; exact ix_last), ?_⟩
    rw [set_last]
    refine ⟨_, zs ++ [z1 ++ kz], rfl, same_upd s5 n3, by rw [upd_same, List.map_append]; rfl, by simp [hl], fun z hz' => ?_⟩
    rcases List.mem_append.mp hz' with h | h
    · exact hz z h
    · rw [List.mem_singleton.mp h]
      exact (tz.app kt).mono (by decide)
  · obtain ⟨k, zs, rfl, sm, ef, hl, hz⟩ := h
    exact ⟨_, rfl, q fp zs H' (sB.trans sm) ef hl hz⟩
theorem few31 {n : Int} (h0 : 0 ≤ n) (h1 : n < 2147483647) : Few n := by
  unfold Few
  exact log_of (k := 31) (m := 1048576) (by omega) (by decide) (by decide)
def spLP (K : PySem.W.Frag) : Sp := fun vs H Q _ => ∃ c n : Int, vs = [.int c, .int n] ∧ Few c ∧ 0 ≤ n ∧ n ≤ 4 ∧ ∀ r ps H', Same H H' → Ps K H' r ps → Pl ps n.toNat → Q r H'
theorem sc_lpairs : FnScope ["_law_cell", "_law_many", "_law_found", "_law_k", "_law_part"] ["_law_cell", "_law_many"] (defScope s_lpairs) := ⟨rfl, rfl, rfl, by decide +kernel, rfl, by decide +kernel, by decide +kernel⟩
theorem lk_lpairs__law_cell : (defScope s_lpairs).names.lookup ("_law_cell" : Str) = some .local := by decide +kernel
theorem lk_lpairs__law_many : (defScope s_lpairs).names.lookup ("_law_many" : Str) = some .local := by decide +kernel
theorem lk_lpairs__law_found : (defScope s_lpairs).names.lookup ("_law_found" : Str) = some .local := by decide +kernel
theorem lk_lpairs__law_k : (defScope s_lpairs).names.lookup ("_law_k" : Str) = some .local := by decide +kernel
theorem lk_lpairs__law_part : (defScope s_lpairs).names.lookup ("_law_part" : Str) = some .local := by decide +kernel
theorem lk_lpairs__law_fraction : (defScope s_lpairs).names.lookup ("_law_fraction" : Str) = some .globalImplicit := by decide +kernel
theorem lk_lpairs__law_mixed : (defScope s_lpairs).names.lookup ("_law_mixed" : Str) = some .globalImplicit := by decide +kernel
theorem lk_lpairs_range : (defScope s_lpairs).names.lookup ("range" : Str) = some .globalImplicit := by decide +kernel
theorem lk_lpairs_tuple : (defScope s_lpairs).names.lookup ("tuple" : Str) = some .globalImplicit := by decide +kernel
theorem ok_lpairs {fDF fDL fDM : Addr} {dDF dDL dDM : FuncData} (F : Fun K "_law_pairs" "_law_pairs" s_lpairs f fd) (B : Blt mg) (DF : DefAt K mg "_law_fraction" s_lfrac fDF dDF ["_law_cell"]) (DL : DefAt K mg "_law_lesser" s_lesser fDL dDL ["_law_top", "_law_bottom"]) (DM : DefAt K mg "_law_mixed" s_mixed fDM dDM ["_law_cell", "_law_k"]) : FnOk P w K mg base CX0 3 f fd ["_law_cell", "_law_many"] (spLP K) := by
  have OF : FnOk P w K mg base CX0 2 fDF dDF ["_law_cell"] (spFr K) := ok_lfrac DF.F B DL
  have OM : FnOk P w K mg base CX0 1 fDM dDM ["_law_cell", "_law_k"] spMixed := ok_mixed DM.F
  refine F.ok sc_lpairs (fun vs H Q E h => ?_) (fun cdv A outer s H vs Q E hr h => ?_)
  · obtain ⟨_, _, rfl, _⟩ := h
    rfl
  obtain ⟨c, n, rfl, few, n0, n4, q⟩ := h
  have nd := sc_lpairs.nd
  have hrm : Room 1 _ := hr.mono (by decide)
  refine ⟨_, pss_cons (ps_set (i := 2) nd rfl (Or.inl lk_lpairs__law_found) (pe_lst pa_nil))
    (pss_cons (ps_for PassesOwn.never rfl (pi_range1 lk_lpairs_range B.range (pa_Name (pv 1 rfl (Or.inl lk_lpairs__law_many)) pa_nil)) (pg_name (i := 3) nd rfl (Or.inl lk_lpairs__law_k)) (pss_cons (ps_set (i := 4) nd rfl (Or.inl lk_lpairs__law_part) (pe_call OF hr lk_lpairs__law_fraction DF.m DF.F.kp DF.b .nil pass0 (pa_BinOp (pe_op op_fdiv (pe_call OM hrm lk_lpairs__law_mixed DM.m DM.F.kp DM.b .nil pass0 (pa_Name (pv 0 rfl (Or.inl lk_lpairs__law_cell)) (pa_Name (pv 3 rfl (Or.inl lk_lpairs__law_k)) pa_nil))) (pe_int)) pa_nil)))
    (pss_one (ps_if (PW.pt (pw_and (pt_cmpR op_ne (pe_ix ix_tup (pv 4 rfl (Or.inl lk_lpairs__law_part)) (pe_int) (fun _ _ => rfl)) (pe_int) (nomark _)) (pw_and1 (pt_cmpR op_gt (pe_op op_mod (pe_op op_fdiv (pe_call OM hrm lk_lpairs__law_mixed DM.m DM.F.kp DM.b .nil pass0 (pa_Name (pv 0 rfl (Or.inl lk_lpairs__law_cell)) (pa_BinOp (pe_op op_add (pe_int) (pv 3 rfl (Or.inl lk_lpairs__law_k))) pa_nil))) (pe_int)) (pe_int)) (pe_int) (nomark _))))) (pss_one (ps_expr (pe_bm PySem.F.plainAttrs_list PySem.F.slot_list_append PySem.F.type_list_append mt_append (pv 2 rfl (Or.inl lk_lpairs__law_found)) (pa_Tuple (pe_tup (pa_Name (pv 3 rfl (Or.inl lk_lpairs__law_k)) (pa_Name (pv 4 rfl (Or.inl lk_lpairs__law_part)) pa_nil))) pa_nil)))) (pss_nil)))))
    (pss_one (ps_ret (pe_callTy call_tuple_of lk_lpairs_tuple B.tuple bt_tuple (pa_Name (pv 2 rfl (Or.inl lk_lpairs__law_found)) pa_nil))))), ?_⟩
  refine ⟨(by show 0 ≤ sizeLine; decide), fun fp n1 => ?_⟩
  generalize hH_ : upd _ fp _ = H1
  obtain ⟨s1, e1⟩ := upd_new hH_ n1
  clear hH_
  refine ⟨_, rfl, n, rfl, by omega, by omega, ?_⟩
  refine for_range (fun i σ H' => ∃ (k pt : Option V) (vs : List V) (ps : Pq), σ = [some (.int c), some (.int n), some (.ref fp), k, pt] ∧ Same H (hid fp H') ∧ H' fp = some (.lst vs) ∧ Paired (Pr K (hid fp H')) vs ps ∧ ps.length ≤ i ∧ (∀ m ∈ ps, Gd 101 m.2 ∧ m.2.1 ≠ 0 ∧ 0 ≤ m.1 ∧ m.1 < i) ∧ ps.Pairwise fun a b => a.1 < b.1)
    ⟨none, none, [], [], rfl, (fun b o e => by rw [hid_ne (ne_of_none e n1)]; exact s1 b o e), e1, .nil, Nat.le_refl _, by simp, .nil⟩ (fun i σ H' hi h => ?_) (fun σ H' h => ?_)
  · obtain ⟨k, pt, vs, ps, rfl, sm, ef, pr, pl, pm, pp⟩ := h
    refine ⟨_, rfl, _, rfl, c, 0 + (i : Int), rfl, few, by omega, by omega, fun m1 a1 b1 => ?_⟩
    refine ⟨_, _, rfl, rfl, ⟨by decide, by decide⟩, _, rfl, fun r a H2 s2 f2 g2 => ?_⟩
    obtain ⟨p, rfl, hp⟩ := id f2
    have ef2 : H2 fp = some (.lst vs) := s2 _ _ ef
    have sG := hid_same (D := fp) s2
    have keep : ∃ (k pt : Option V) (vs : List V) (ps : Pq), [some (.int c), some (.int n), some (.ref fp), some (.int (0 + (i : Int))), some (.ref p)] = [some (.int c), some (.int n), some (.ref fp), k, pt] ∧ Same H (hid fp H2) ∧ H2 fp = some (.lst vs) ∧ Paired (Pr K (hid fp H2)) vs ps ∧ ps.length ≤ i + 1 ∧ (∀ m ∈ ps, Gd 101 m.2 ∧ m.2.1 ≠ 0 ∧ 0 ≤ m.1 ∧ m.1 < ((i + 1 : Nat) : Int)) ∧ ps.Pairwise fun a b => a.1 < b.1 :=
      ⟨_, _, vs, ps, rfl, sm.trans sG, ef2, Paired.mapP pr fun _ _ q => q.same sG, Nat.le_succ_of_le pl, fun m hm => ⟨(pm m hm).1, (pm m hm).2.1, (pm m hm).2.2.1, by have := (pm m hm).2.2.2; omega⟩, pp⟩
    refine ⟨_, rfl, p, _, _, _, rfl, rfl, hp, rfl, rfl, _, rfl, ?_⟩
    by_cases z : a.1 = 0
    · exact iteN (neN z) (iteF keep)
    refine iteY (neY z) ?_
    refine ⟨_, rfl, _, rfl, _, _, rfl, rfl, c, 10 + (0 + (i : Int)), rfl, few, by omega, by omega, fun m2 a2 b2 => ?_⟩
    refine ⟨_, _, rfl, rfl, ⟨by decide, by decide⟩, _, _, rfl, rfl, (by show (0 : Int) < 4; decide), _, _, rfl, rfl, _, rfl, ?_⟩
    refine ite2 (fun _ => ?_) (fun _ => keep)
    refine ⟨_, rfl, .inl ⟨rfl, _, SqL.of ef2⟩, _, rfl, _, rfl, ?_⟩
    refine ⟨(by show 2 ≤ sizeLine; decide), fun t hz_t => ?_⟩
    generalize hH_ : upd _ t _ = H3
    obtain ⟨s3, e3⟩ := upd_new hH_ hz_t
    clear hH_
    have ef3 : H3 fp = some (.lst vs) := s3 _ _ ef2
    have sG3 := hid_same (D := fp) s3
    refine ⟨fp, _, _, rfl, rfl, ef3, (by have := Paired.length pr; rw [sizeLine_eq]; omega), ?_⟩
    refine ⟨_, _, vs ++ [.ref t], ps ++ [(0 + (i : Int), a)], rfl, ?_, upd_same, ?_, by rw [List.length_append]; exact Nat.succ_le_succ pl, fun m hm => ?_, ?_⟩
    · rw [hid_upd]; exact (sm.trans sG).trans sG3
    · rw [hid_upd]
      refine Paired.snoc (Paired.mapP pr fun _ _ q => (q.same sG).same sG3) ?_
      exact Pr.hid ef3 ⟨t, _, rfl, SqT.of e3, f2.same s3⟩
    · rcases List.mem_append.mp hm with h | h
      · exact ⟨(pm m h).1, (pm m h).2.1, (pm m h).2.2.1, by have := (pm m h).2.2.2; omega⟩
      · rw [List.mem_singleton.mp h]
        exact ⟨g2.mono (by decide), z, by show (0 : Int) ≤ 0 + (i : Int); omega, by show 0 + (i : Int) < ((i + 1 : Nat) : Int); omega⟩
    · refine List.pairwise_append.mpr ⟨pp, List.pairwise_singleton _ _, fun x hx y hy => ?_⟩
      rw [List.mem_singleton.mp hy]
      have := (pm x hx).2.2.2
      show x.1 < 0 + (i : Int)
      omega
  · obtain ⟨k, pt, vs, ps, rfl, sm, ef, pr, pl, pm, pp⟩ := h
    refine ⟨_, rfl, fp, vs, rfl, .inl ⟨SqL.of ef, fun l hl => ?_⟩⟩
    have sl := same_new hl (.tup vs)
    have sg : Same (hid fp H') (upd H' l (.tup vs)) := hid_le.trans sl
    exact q _ ps _ (sm.trans sg) ⟨l, vs, rfl, upd_same, Paired.mapP pr fun _ _ q => q.same sg⟩ ⟨fun m hm => ⟨(pm m hm).1, (pm m hm).2.1, (pm m hm).2.2.1, (pm m hm).2.2.2⟩, pp, by omega, by omega⟩
def ValAt (K : PySem.W.Frag) (H : Hp) (w : Addr) (vals : List Fq) : Prop := ∃ fs, H w = some (.tup fs) ∧ Paired (IsF K H) fs vals
theorem ValAt.same {K : PySem.W.Frag} {H H' : Hp} {w : Addr} {vals : List Fq} (e : Same H H') (h : ValAt K H w vals) : ValAt K H' w vals := let ⟨fs, a, b⟩ := h; ⟨fs, e _ _ a, fs_same e b⟩
def spFrs (K : PySem.W.Frag) : Sp := fun vs H Q _ => ∃ c n : Int, vs = [.int c, .int n] ∧ Few c ∧ 0 ≤ n ∧ n ≤ 100 ∧ ∀ p vals H', Same H H' → ValAt K H' p vals → vals.length = n.toNat → (∀ x ∈ vals, Gd 40 x) → Q (.ref p) H'
theorem sc_fracs : FnScope ["_law_cell", "_law_many"] ["_law_cell", "_law_many"] (defScope s_fracs) := ⟨rfl, rfl, rfl, by decide +kernel, rfl, by decide +kernel, by decide +kernel⟩
theorem lk_fracs__law_many : (defScope s_fracs).names.lookup ("_law_many" : Str) = some .local := by decide +kernel
theorem lk_fracs_range : (defScope s_fracs).names.lookup ("range" : Str) = some .globalImplicit := by decide +kernel
theorem lk_fracs_tuple : (defScope s_fracs).names.lookup ("tuple" : Str) = some .globalImplicit := by decide +kernel
theorem ok_fracs {fDF fDL fDM : Addr} {dDF dDL dDM : FuncData} (F : Fun K "_law_fractions" "_law_fractions" s_fracs f fd) (B : Blt mg) (DF : DefAt K mg "_law_fraction" s_lfrac fDF dDF ["_law_cell"]) (DL : DefAt K mg "_law_lesser" s_lesser fDL dDL ["_law_top", "_law_bottom"]) (DM : DefAt K mg "_law_mixed" s_mixed fDM dDM ["_law_cell", "_law_k"]) : FnOk P w K mg base CX0 3 f fd ["_law_cell", "_law_many"] (spFrs K) := by
  have OF : FnOk P w K mg base CX0 2 fDF dDF ["_law_cell"] (spFr K) := ok_lfrac DF.F B DL
  have OM : FnOk P w K mg base CX0 1 fDM dDM ["_law_cell", "_law_k"] spMixed := ok_mixed DM.F
  refine F.ok sc_fracs (fun vs H Q E h => ?_) (fun cdv A outer s H vs Q E hr h => ?_)
  · obtain ⟨_, _, rfl, _⟩ := h
    rfl
  obtain ⟨c, n, rfl, few, n0, n4, q⟩ := h
  have nd := sc_fracs.nd
  have hrm : Room 1 _ := hr.mono (by decide)
  refine ⟨_, pss_one (ps_ret (pe_callTy call_tuple_of lk_fracs_tuple B.tuple bt_tuple (pa_ListComp (pe_comp rfl (frees_of ["_law_k"] [("_law_cell", 0)] ["_law_cell", "_law_many"] (by decide +kernel)) (visC s_fracs (by decide +kernel)) (by decide +kernel) rfl (by decide +kernel) (fun y hy => PySem.mem_of_lookup hy) (pi_range1 lk_fracs_range B.range (pa_Name (pv 1 rfl (Or.inl lk_fracs__law_many)) pa_nil)) (fun cl C s H fp pins => pg_name (i := 0) (show (["_law_k", "_law_cell"] : List Str).Nodup by decide +kernel) rfl (Or.inl (c_loc (by decide +kernel))) (.inr (c_loc (by decide +kernel)))) (fun cl C s H fp pins => pif_nil) (fun cl C s H fp pins => pe_call OF hr (c_gl (by decide +kernel)) DF.m DF.F.kp DF.b .nil pass0 (pa_BinOp (pe_op op_fdiv (pe_call OM hrm (c_gl (by decide +kernel)) DM.m DM.F.kp DM.b .nil pass0 (pa_Name (pv 1 rfl (c_free (by decide +kernel))) (pa_BinOp (pe_op op_add (pe_int) (pv 0 rfl (c_vloc (by decide +kernel)))) pa_nil))) (pe_int)) pa_nil))) pa_nil))), ?_⟩
  refine ⟨_, rfl, n, rfl, by omega, by omega, fun D hD => ?_⟩
  refine comp_same (J := Itr 0 n.toNat) (xs := (List.range n.toNat).map fun (k : Nat) => V.int (0 + k)) hD (by simp [sizeLine_eq]; omega) goR stR yR (fun i ys σ G => (∃ k : Option V, σ = [k, some (.int c)]) ∧ ∃ vals : List Fq, Paired (IsF K G) ys vals ∧ vals.length = i ∧ ∀ x ∈ vals, Gd 40 x)
    ⟨⟨none, rfl⟩, [], .nil, rfl, by simp⟩ (fun i x ys σ H1 hx hp eD sm Ry Rn r1 r2 => ?_) (fun ys σ H1 hp eD sm => ?_)
  · obtain ⟨rfl, hi⟩ := rng_at hx
    obtain ⟨⟨k, rfl⟩, vals, pr, hl, hg⟩ := hp
    refine ⟨_, rfl, _, rfl, _, _, rfl, rfl, c, 30 + (0 + (i : Int)), rfl, few, by omega, by omega, fun m1 a1 b1 => ?_⟩
    refine ⟨_, _, rfl, rfl, ⟨by decide, by decide⟩, _, rfl, fun r a H2 s2 f2 g2 => ?_⟩
    have sG := hid_same (D := D) s2
    refine r1 _ _ H2 s2 ⟨⟨_, rfl⟩, vals ++ [a], Paired.snoc (fs_same sG pr) (f2.hid (s2 _ _ eD)), by rw [List.length_append, hl]; rfl, fun x hx => ?_⟩
    rcases List.mem_append.mp hx with h | h
    · exact hg x h
    · rw [List.mem_singleton.mp h]; exact g2
  · obtain ⟨_, vals, pr, hl, hg⟩ := hp
    refine ⟨D, ys, rfl, .inl ⟨SqL.of eD, fun l hl' => ?_⟩⟩
    have sl := same_new hl' (.tup ys)
    have sg : Same (hid D H1) (upd H1 l (.tup ys)) := hid_le.trans sl
    exact q l vals _ (sm.trans sg) ⟨ys, upd_same, fs_same sg pr⟩ (by rw [hl]; simp) hg
end
end Pw


set_option Elab.async false
set_option linter.all false
set_option maxRecDepth 100000
set_option maxHeartbeats 4000000
namespace Pw
open PySem L2
seal PE PT PW PA PS PSs PG PGs PI PIf PO PJ
def Uk (H : Hp) (x : V) (z : Str) : Prop := ∃ q t, x = .ref q ∧ H q = some (.tup (.str z :: t))
def PlanAt (K : PySem.W.Frag) (H : Hp) (p : Addr) (zs : List Str) (nr : Nat) (ps : Pq) (c : Fq) : Prop := ∃ u r g us rs way pv cv, H p = some (.tup [.ref u, .ref r, .ref g]) ∧ H u = some (.tup us) ∧ Paired (Uk H) us zs ∧ H r = some (.tup rs) ∧ rs.length = nr ∧ H g = some (.tup [way, pv, cv]) ∧ Ps K H pv ps ∧ IsF K H cv c
structure POk (zs : List Str) (nr : Nat) (ps : Pq) (c : Fq) : Prop where
  z4 : zs.length ≤ 4
  zl : ∀ z ∈ zs, z.length ≤ 30
  r : nr ≤ 3
  p : Pl ps zs.length
  c : Gd 40 c
theorem Uk.same {H H' : Hp} {x : V} {z : Str} (e : Same H H') (h : Uk H x z) : Uk H' x z := let ⟨q, t, a, b⟩ := h; ⟨q, t, a, e _ _ b⟩
theorem PlanAt.same {K : PySem.W.Frag} {H H' : Hp} {p : Addr} {zs : List Str} {nr : Nat} {ps : Pq} {c : Fq} (e : Same H H') (h : PlanAt K H p zs nr ps c) : PlanAt K H' p zs nr ps c :=
  let ⟨u, r, g, us, rs, way, pv, cv, a1, a2, a3, a4, a5, a6, a7, a8⟩ := h
  ⟨u, r, g, us, rs, way, pv, cv, e _ _ a1, e _ _ a2, Paired.mapP a3 fun _ _ q => q.same e, e _ _ a4, a5, e _ _ a6, a7.same e, a8.same e⟩
theorem abcd {i : Nat} (h : i < 4) : ∃ d, atI (Str.ofString "abcd").cps.toList (0 + (i : Int)) = some d ∧ d < 128 := by
  rcases i with _ | _ | _ | _ | i
  · exact ⟨97, rfl, by decide⟩
  · exact ⟨98, rfl, by decide⟩
  · exact ⟨99, rfl, by decide⟩
  · exact ⟨100, rfl, by decide⟩
  · omega
theorem strat {zs : List Str} {i : Nat} (h : i < zs.length) : atI (zs.map V.str) (0 + (i : Int)) = some (.str zs[i]) := by
  rw [Int.zero_add]
  exact atI_nat (by rw [List.getElem?_map, List.getElem?_eq_getElem h]; rfl)
section
variable {P : Program} {w : World} {K : PySem.W.Frag} {mg : Str → Option Value} {base : Heap} {f : Addr} {fd : FuncData}
def spPlan (K : PySem.W.Frag) : Sp := fun vs H Q _ => ∃ (a : Addr) (ns : List Int), vs = [.ref a] ∧ SqL K H a (ns.map V.int) ∧ (∀ i ∈ ns, Few i) ∧ ∀ p zs nr ps c H', Same H H' → PlanAt K H' p zs nr ps c → POk zs nr ps c → Q (.ref p) H'
theorem sc_plan : FnScope ["_law_script", "_law_first", "_law_many", "_law_labels_here", "_law_unknowns", "_law_k", "_law_cell", "_law_rows", "_law_bound", "_law_goal"] ["_law_script"] (defScope s_plan) := ⟨rfl, rfl, rfl, by decide +kernel, rfl, by decide +kernel, by decide +kernel⟩
theorem lk_plan__law_script : (defScope s_plan).names.lookup ("_law_script" : Str) = some .local := by decide +kernel
theorem lk_plan__law_first : (defScope s_plan).names.lookup ("_law_first" : Str) = some .local := by decide +kernel
theorem lk_plan__law_many : (defScope s_plan).names.lookup ("_law_many" : Str) = some .local := by decide +kernel
theorem lk_plan__law_labels_here : (defScope s_plan).names.lookup ("_law_labels_here" : Str) = some .local := by decide +kernel
theorem lk_plan__law_unknowns : (defScope s_plan).names.lookup ("_law_unknowns" : Str) = some .local := by decide +kernel
theorem lk_plan__law_k : (defScope s_plan).names.lookup ("_law_k" : Str) = some .local := by decide +kernel
theorem lk_plan__law_cell : (defScope s_plan).names.lookup ("_law_cell" : Str) = some .local := by decide +kernel
theorem lk_plan__law_rows : (defScope s_plan).names.lookup ("_law_rows" : Str) = some .local := by decide +kernel
theorem lk_plan__law_bound : (defScope s_plan).names.lookup ("_law_bound" : Str) = some .local := by decide +kernel
theorem lk_plan__law_goal : (defScope s_plan).names.lookup ("_law_goal" : Str) = some .local := by decide +kernel
theorem lk_plan__law_at : (defScope s_plan).names.lookup ("_law_at" : Str) = some .globalImplicit := by decide +kernel
theorem lk_plan__law_fraction : (defScope s_plan).names.lookup ("_law_fraction" : Str) = some .globalImplicit := by decide +kernel
theorem lk_plan__law_labels : (defScope s_plan).names.lookup ("_law_labels" : Str) = some .globalImplicit := by decide +kernel
theorem lk_plan__law_mixed : (defScope s_plan).names.lookup ("_law_mixed" : Str) = some .globalImplicit := by decide +kernel
theorem lk_plan__law_pairs : (defScope s_plan).names.lookup ("_law_pairs" : Str) = some .globalImplicit := by decide +kernel
theorem lk_plan_range : (defScope s_plan).names.lookup ("range" : Str) = some .globalImplicit := by decide +kernel
theorem lk_plan_tuple : (defScope s_plan).names.lookup ("tuple" : Str) = some .globalImplicit := by decide +kernel
theorem ok_plan {fDF fDL fDM fDA fDB fDPr : Addr} {dDF dDL dDM dDA dDB dDPr : FuncData} (F : Fun K "_law_plan" "_law_plan" s_plan f fd) (B : Blt mg) (DF : DefAt K mg "_law_fraction" s_lfrac fDF dDF ["_law_cell"]) (DL : DefAt K mg "_law_lesser" s_lesser fDL dDL ["_law_top", "_law_bottom"]) (DM : DefAt K mg "_law_mixed" s_mixed fDM dDM ["_law_cell", "_law_k"]) (DA : DefAt K mg "_law_at" s_lat fDA dDA ["_law_script", "_law_k"]) (DB : DefAt K mg "_law_labels" s_labels fDB dDB ["_law_cell", "_law_many"]) (DPr : DefAt K mg "_law_pairs" s_lpairs fDPr dDPr ["_law_cell", "_law_many"]) : FnOk P w K mg base CX0 4 f fd ["_law_script"] (spPlan K) := by
  have OF : FnOk P w K mg base CX0 2 fDF dDF ["_law_cell"] (spFr K) := ok_lfrac DF.F B DL
  have OM : FnOk P w K mg base CX0 1 fDM dDM ["_law_cell", "_law_k"] spMixed := ok_mixed DM.F
  have OA : FnOk P w K mg base CX0 1 fDA dDA ["_law_script", "_law_k"] (spCell K) := ok_lat DA.F B
  have OB : FnOk P w K mg base CX0 1 fDB dDB ["_law_cell", "_law_many"] spLab := ok_labels DB.F B
  have OP : FnOk P w K mg base CX0 3 fDPr dDPr ["_law_cell", "_law_many"] (spLP K) := ok_lpairs DPr.F B DF DL DM
  refine F.ok sc_plan (fun vs H Q E h => ?_) (fun cdv A outer s H vs Q E hr h => ?_)
  · obtain ⟨_, _, rfl, _⟩ := h
    rfl
  obtain ⟨a, ns, rfl, hS, few, q⟩ := h
  have nd := sc_plan.nd
  have hr1 : Room 1 _ := hr.mono (by decide)
  have hr2 : Room 2 _ := hr.mono (by decide)
  refine ⟨_, pss_cons (ps_set (i := 1) nd rfl (Or.inl lk_plan__law_first) (pe_op op_fdiv (pe_call OM hr1 lk_plan__law_mixed DM.m DM.F.kp DM.b .nil pass0 (pa_Call (pe_call OA hr1 lk_plan__law_at DA.m DA.F.kp DA.b .nil pass0 (pa_Name (pv 0 rfl (Or.inl lk_plan__law_script)) (pa_Constant (pe_int) pa_nil))) (pa_Constant (pe_int) pa_nil))) (pe_int)))
    (pss_cons (ps_set (i := 2) nd rfl (Or.inl lk_plan__law_many) (pe_op op_mod (pv 1 rfl (Or.inl lk_plan__law_first)) (pe_int)))
    (pss_cons (ps_set (i := 3) nd rfl (Or.inl lk_plan__law_labels_here) (pe_call OB hr1 lk_plan__law_labels DB.m DB.F.kp DB.b .nil pass0 (pa_BinOp (pe_op op_fdiv (pv 1 rfl (Or.inl lk_plan__law_first)) (pe_int)) (pa_Name (pv 2 rfl (Or.inl lk_plan__law_many)) pa_nil))))
    (pss_cons (ps_set (i := 4) nd rfl (Or.inl lk_plan__law_unknowns) (pe_lst pa_nil))
    (pss_cons (ps_for PassesOwn.never rfl (pi_range1 lk_plan_range B.range (pa_Name (pv 2 rfl (Or.inl lk_plan__law_many)) pa_nil)) (pg_name (i := 5) nd rfl (Or.inl lk_plan__law_k)) (pss_cons (ps_set (i := 6) nd rfl (Or.inl lk_plan__law_cell) (pe_op op_fdiv (pe_call OM hr1 lk_plan__law_mixed DM.m DM.F.kp DM.b .nil pass0 (pa_Call (pe_call OA hr1 lk_plan__law_at DA.m DA.F.kp DA.b .nil pass0 (pa_Name (pv 0 rfl (Or.inl lk_plan__law_script)) (pa_Constant (pe_int) pa_nil))) (pa_Name (pv 5 rfl (Or.inl lk_plan__law_k)) pa_nil))) (pe_int)))
    (pss_one (ps_expr (pe_bm PySem.F.plainAttrs_list PySem.F.slot_list_append PySem.F.type_list_append mt_append (pv 4 rfl (Or.inl lk_plan__law_unknowns)) (pa_Tuple (pe_tup (pa_Subscript (pe_ix ix_list (pv 3 rfl (Or.inl lk_plan__law_labels_here)) (pv 5 rfl (Or.inl lk_plan__law_k)) (fun _ _ => rfl)) (pa_Constant (pe_bl) (pa_Tuple (pe_tup (pa_BinOp (pe_op op_sub (pe_op op_mod (pv 6 rfl (Or.inl lk_plan__law_cell)) (pe_int)) (pe_int)) (pa_Constant (pe_int) pa_nil))) (pa_Tuple (pe_tup (pa_BinOp (pe_op op_mod (pe_op op_fdiv (pv 6 rfl (Or.inl lk_plan__law_cell)) (pe_int)) (pe_int)) (pa_Constant (pe_int) pa_nil))) pa_nil))))) pa_nil))))))
    (pss_cons (ps_set (i := 7) nd rfl (Or.inl lk_plan__law_rows) (pe_lst pa_nil))
    (pss_cons (ps_for PassesOwn.never rfl (pi_range1 lk_plan_range B.range (pa_BinOp (pe_op op_mod (pe_op op_fdiv (pv 1 rfl (Or.inl lk_plan__law_first)) (pe_int)) (pe_int)) pa_nil)) (pg_name (i := 5) nd rfl (Or.inl lk_plan__law_k)) (pss_cons (ps_set (i := 6) nd rfl (Or.inl lk_plan__law_cell) (pe_op op_fdiv (pe_call OM hr1 lk_plan__law_mixed DM.m DM.F.kp DM.b .nil pass0 (pa_Call (pe_call OA hr1 lk_plan__law_at DA.m DA.F.kp DA.b .nil pass0 (pa_Name (pv 0 rfl (Or.inl lk_plan__law_script)) (pa_Constant (pe_int) pa_nil))) (pa_Name (pv 5 rfl (Or.inl lk_plan__law_k)) pa_nil))) (pe_int)))
    (pss_cons (ps_set (i := 8) nd rfl (Or.inl lk_plan__law_bound) (pe_call OF hr2 lk_plan__law_fraction DF.m DF.F.kp DF.b .nil pass0 (pa_BinOp (pe_op op_fdiv (pv 6 rfl (Or.inl lk_plan__law_cell)) (pe_int)) pa_nil)))
    (pss_one (ps_expr (pe_bm PySem.F.plainAttrs_list PySem.F.slot_list_append PySem.F.type_list_append mt_append (pv 7 rfl (Or.inl lk_plan__law_rows)) (pa_Tuple (pe_tup (pa_BinOp (pe_op op_add_str (pe_op op_add_str (pe_str) (pe_ix ix_str (pe_str) (pv 5 rfl (Or.inl lk_plan__law_k)) (fun _ _ => rfl))) (pe_str)) (pa_Call (pe_call OP hr lk_plan__law_pairs DPr.m DPr.F.kp DPr.b .nil pass0 (pa_Name (pv 6 rfl (Or.inl lk_plan__law_cell)) (pa_Name (pv 2 rfl (Or.inl lk_plan__law_many)) pa_nil))) (pa_Subscript (pe_ix ix_list (pe_lst (pa_Constant (pe_str) (pa_Constant (pe_str) (pa_Constant (pe_str) pa_nil)))) (pe_op op_mod (pv 6 rfl (Or.inl lk_plan__law_cell)) (pe_int)) (fun _ _ => rfl)) (pa_Name (pv 8 rfl (Or.inl lk_plan__law_bound)) pa_nil))))) pa_nil)))))))
    (pss_cons (ps_set (i := 6) nd rfl (Or.inl lk_plan__law_cell) (pe_op op_fdiv (pe_call OM hr1 lk_plan__law_mixed DM.m DM.F.kp DM.b .nil pass0 (pa_Call (pe_call OA hr1 lk_plan__law_at DA.m DA.F.kp DA.b .nil pass0 (pa_Name (pv 0 rfl (Or.inl lk_plan__law_script)) (pa_Constant (pe_int) pa_nil))) (pa_Constant (pe_int) pa_nil))) (pe_int)))
    (pss_cons (ps_set (i := 9) nd rfl (Or.inl lk_plan__law_goal) (pe_tup (pa_Subscript (pe_ix ix_list (pe_lst (pa_Constant (pe_str) (pa_Constant (pe_str) pa_nil))) (pe_op op_mod (pv 6 rfl (Or.inl lk_plan__law_cell)) (pe_int)) (fun _ _ => rfl)) (pa_Call (pe_call OP hr lk_plan__law_pairs DPr.m DPr.F.kp DPr.b .nil pass0 (pa_Name (pv 6 rfl (Or.inl lk_plan__law_cell)) (pa_Name (pv 2 rfl (Or.inl lk_plan__law_many)) pa_nil))) (pa_Call (pe_call OF hr2 lk_plan__law_fraction DF.m DF.F.kp DF.b .nil pass0 (pa_BinOp (pe_op op_fdiv (pv 6 rfl (Or.inl lk_plan__law_cell)) (pe_int)) pa_nil)) pa_nil)))))
    (pss_one (ps_ret (pe_tup (pa_Call (pe_callTy call_tuple_of lk_plan_tuple B.tuple bt_tuple (pa_Name (pv 4 rfl (Or.inl lk_plan__law_unknowns)) pa_nil)) (pa_Call (pe_callTy call_tuple_of lk_plan_tuple B.tuple bt_tuple (pa_Name (pv 7 rfl (Or.inl lk_plan__law_rows)) pa_nil)) (pa_Name (pv 9 rfl (Or.inl lk_plan__law_goal)) pa_nil)))))))))))))), ?_⟩
  refine ⟨_, rfl, a, ns, 0, rfl, hS, few, by decide, fun n1 f1 => ⟨n1, 0, rfl, f1, by decide, by decide, fun m1 a1 b1 => ⟨_, _, rfl, rfl, ⟨by decide, by decide⟩, ?_⟩⟩⟩
  try dsimp only
  generalize m1 / 7 = fi
  have y0 := Int.emod_nonneg fi (show (5 : Int) ≠ 0 by decide)
  have y1 := Int.emod_lt_of_pos fi (show (0 : Int) < 5 by decide)
  refine ⟨_, rfl, _, _, rfl, rfl, (by show (0 : Int) < 5; decide), ?_⟩
  dsimp only
  try dsimp only
  generalize fi % 5 = n at y0 y1 ⊢
  refine ⟨_, rfl, _, _, rfl, rfl, ⟨by decide, by decide⟩, _, rfl, _, _, rfl, y0, by omega, fun lp zs H1 s1 e1 hl hz => ?_⟩
  refine ⟨(by show 0 ≤ sizeLine; decide), fun up n2 => ?_⟩
  generalize hH_ : upd _ up _ = H2
  obtain ⟨s2, e2⟩ := upd_new hH_ n2
  clear hH_
  refine ⟨_, rfl, n, rfl, by omega, by omega, ?_⟩
  refine for_range (fun i σ H' => ∃ (k ce : Option V) (us : List V), σ = [some (.ref a), some (.int fi), some (.int n), some (.ref lp), some (.ref up), k, ce, none, none, none] ∧ Same H1 (hid up H') ∧ H' up = some (.lst us) ∧ Paired (Uk (hid up H')) us (zs.take i))
    ⟨none, none, [], rfl, (fun b o e => by rw [hid_ne (ne_of_none e n2)]; exact s2 b o e), e2, .nil⟩ (fun i σ H' hi h => ?_) (fun σ H' h => ?_)
  · obtain ⟨k, ce, us, rfl, sm, eu, pr⟩ := h
    have s' : Same H1 H' := sm.trans hid_le
    have hi' : i < zs.length := by omega
    have pl : us.length = i := by rw [Paired.length pr, List.length_take]; omega
    refine ⟨_, rfl, a, ns, 1, rfl, (s1.trans s').seq hS, few, by decide, fun n3 f3 => ⟨_, rfl, n3, 0 + (i : Int), rfl, f3, by omega, by omega, fun m3 a3 b3 => ⟨_, _, rfl, rfl, ⟨by decide, by decide⟩, ?_⟩⟩⟩
    try dsimp only
    generalize m3 / 7 = ce'
    refine ⟨_, rfl, .inl ⟨rfl, _, SqL.of eu⟩, ?_⟩
    refine ⟨_, rfl, _, rfl, lp, _, _, _, rfl, rfl, SqL.of (s' _ _ e1), strat hi', ?_⟩
    refine ⟨_, rfl, _, _, rfl, rfl, (by show (0 : Int) < 9; decide), _, _, rfl, rfl, ?_⟩
    refine ⟨(by show 2 ≤ sizeLine; decide), fun t1 hz_t1 => ?_⟩
    generalize hH_ : upd _ t1 _ = H3
    obtain ⟨s3, e3⟩ := upd_new hH_ hz_t1
    clear hH_
    refine ⟨_, rfl, _, _, rfl, rfl, ⟨by decide, by decide⟩, _, _, rfl, rfl, (by show (0 : Int) < 9; decide), ?_⟩
    refine ⟨(by show 2 ≤ sizeLine; decide), fun t2 hz_t2 => ?_⟩
    generalize hH_ : upd _ t2 _ = H4
    obtain ⟨s4, e4⟩ := upd_new hH_ hz_t2
    clear hH_
    refine ⟨(by show 4 ≤ sizeLine; decide), fun t3 hz_t3 => ?_⟩
    generalize hH_ : upd _ t3 _ = H5
    obtain ⟨s5, e5⟩ := upd_new hH_ hz_t3
    clear hH_
    have s45 := s3.trans (s4.trans s5)
    have eu5 := s45 _ _ eu
    have sG := hid_same (D := up) s45
    refine ⟨up, _, _, rfl, rfl, eu5, (by rw [pl, sizeLine_eq]; omega), ?_⟩
    refine ⟨_, _, us ++ [.ref t3], rfl, ?_, upd_same, ?_⟩
    · rw [hid_upd]; exact sm.trans sG
    · rw [hid_upd, List.take_succ, List.getElem?_eq_getElem hi']
      exact Paired.snoc (Paired.mapP pr fun _ _ q => q.same sG) ⟨t3, _, rfl, tup_hid eu5 e5⟩
  obtain ⟨k, ce, us, rfl, sm, eu, pr⟩ := h
  rw [List.take_of_length_le (by omega)] at pr
  have s' : Same H1 H' := sm.trans hid_le
  have pr' : Paired (Uk H') us zs := Paired.mapP pr fun _ _ q => q.same hid_le
  have sH := s1.trans s'
  clear pr sm
  refine ⟨(by show 0 ≤ sizeLine; decide), fun rp n3 => ?_⟩
  generalize hH_ : upd _ rp _ = H3
  obtain ⟨s3, e3⟩ := upd_new hH_ n3
  clear hH_
  have x0 := Int.emod_nonneg (fi / 40) (show (4 : Int) ≠ 0 by decide)
  have x1 := Int.emod_lt_of_pos (fi / 40) (show (0 : Int) < 4 by decide)
  refine ⟨_, rfl, _, _, rfl, rfl, ⟨by decide, by decide⟩, _, _, rfl, rfl, (by show (0 : Int) < 4; decide), fi / 40 % 4, rfl, by omega, by omega, ?_⟩
  generalize fi / 40 % 4 = nr at x0 x1 ⊢ -- nd
  refine for_range (fun i σ H'' => ∃ (k ce bo : Option V) (rs : List V), σ = [some (.ref a), some (.int fi), some (.int n), some (.ref lp), some (.ref up), k, ce, some (.ref rp), bo, none] ∧ Same H' (hid rp H'') ∧ H'' rp = some (.lst rs) ∧ rs.length = i)
    ⟨k, ce, none, [], rfl, (fun b o e => by rw [hid_ne (ne_of_none e n3)]; exact s3 b o e), e3, rfl⟩ (fun i σ H'' hi h => ?_) (fun σ H'' h => ?_)
  · obtain ⟨k, ce, bo, rs, rfl, sm, er, rl⟩ := h
    have s2' : Same H' H'' := sm.trans hid_le
    refine ⟨_, rfl, a, ns, 2, rfl, (sH.trans s2').seq hS, few, by decide, fun n4 f4 => ⟨_, rfl, n4, 0 + (i : Int), rfl, f4, by omega, by omega, fun m4 a4 b4 => ⟨_, _, rfl, rfl, ⟨by decide, by decide⟩, ?_⟩⟩⟩
    have fc : Few (m4 / 7) := few31 (Int.ediv_nonneg a4 (by decide)) (by have := Int.ediv_le_self 7 a4; omega)
    try dsimp only
    generalize m4 / 7 = ce' at fc ⊢
    refine ⟨_, rfl, _, _, rfl, rfl, ⟨by decide, by decide⟩, _, rfl, fun rb ab H4 s4 f4' g4 => ?_⟩
    have er4 := s4 _ _ er
    obtain ⟨d, ed, d128⟩ := abcd (i := i) (by omega)
    refine ⟨_, rfl, .inl ⟨rfl, _, SqL.of er4⟩, ?_⟩
    refine ⟨_, rfl, _, _, d, rfl, rfl, (by rw [sizeLine_eq]; decide), ed, _, _, rfl, rfl, (by show (Str.ofString "row(").length + 1 ≤ sizeLine; rw [sizeLine_eq]; decide), _, _, rfl, rfl, (by show (Str.ofString "row(" ++ ⟨#[d]⟩).length + (Str.ofString ")").length ≤ sizeLine; rw [app_len, sizeLine_eq]; show _ + 1 + _ ≤ _; decide), ?_⟩
    refine ⟨_, rfl, _, rfl, _, _, rfl, fc, y0, by omega, fun rp' ps' H5 s5 q5 p5 => ?_⟩
    refine ⟨(by show 3 ≤ sizeLine; decide), fun sl hz_sl => ?_⟩
    generalize hH_ : upd _ sl _ = H6
    obtain ⟨s6, e6⟩ := upd_new hH_ hz_sl
    clear hH_
    obtain ⟨sg, es, _⟩ := pickL (xs := [V.str "<=", .str ">=", .str "="]) (n := 3) rfl (by decide) ce'
    refine ⟨_, rfl, _, _, rfl, rfl, (by show (0 : Int) < 3; decide), sl, _, _, _, rfl, rfl, SqL.of e6, es, _, rfl, ?_⟩
    refine ⟨(by show 4 ≤ sizeLine; decide), fun t hz_t => ?_⟩
    generalize hH_ : upd _ t _ = H7
    obtain ⟨s7, e7⟩ := upd_new hH_ hz_t
    clear hH_
    have s47 := s4.trans (s5.trans (s6.trans s7))
    have er7 := s47 _ _ er
    refine ⟨rp, _, _, rfl, rfl, er7, (by rw [rl, sizeLine_eq]; omega), ?_⟩
    exact ⟨_, _, _, rs ++ [.ref t], rfl, by rw [hid_upd]; exact sm.trans (hid_same s47), upd_same, by rw [List.length_append, rl]; rfl⟩
  obtain ⟨k2, ce2, bo2, rs, rfl, sm, er, rl⟩ := h
  have s2' : Same H' H'' := sm.trans hid_le
  have sH2 := sH.trans s2'
  refine ⟨_, rfl, a, ns, 3, rfl, sH2.seq hS, few, by decide, fun n5 f5 => ⟨n5, 1, rfl, f5, by decide, by decide, fun m5 a5 b5 => ⟨_, _, rfl, rfl, ⟨by decide, by decide⟩, ?_⟩⟩⟩
  have fc : Few (m5 / 7) := few31 (Int.ediv_nonneg a5 (by decide)) (by have := Int.ediv_le_self 7 a5; omega)
  try dsimp only
  generalize m5 / 7 = ce' at fc ⊢
  refine ⟨(by show 2 ≤ sizeLine; decide), fun wl hz_wl => ?_⟩
  generalize hH_ : upd _ wl _ = H4
  obtain ⟨s4, e4⟩ := upd_new hH_ hz_wl
  clear hH_
  obtain ⟨wy, ew, _⟩ := pickL (xs := [V.str "least", .str "most"]) (n := 2) rfl (by decide) ce'
  refine ⟨_, rfl, _, _, rfl, rfl, (by show (0 : Int) < 2; decide), wl, _, _, _, rfl, rfl, SqL.of e4, ew, ?_⟩
  refine ⟨_, rfl, _, rfl, _, _, rfl, fc, y0, by omega, fun gp ps H5 s5 q5 p5 => ?_⟩
  refine ⟨_, rfl, _, _, rfl, rfl, ⟨by decide, by decide⟩, _, rfl, fun gc cc H6 s6 f6 g6 => ?_⟩
  refine ⟨(by show 3 ≤ sizeLine; decide), fun g hz_g => ?_⟩
  generalize hH_ : upd _ g _ = H7
  obtain ⟨s7, e7⟩ := upd_new hH_ hz_g
  clear hH_
  have s47 := s4.trans (s5.trans (s6.trans s7))
  refine ⟨_, rfl, up, us, rfl, .inl ⟨SqL.of (s47 _ _ (s2' _ _ eu)), fun u hu => ?_⟩⟩
  have s8 := same_new hu (.tup us)
  have e8 : upd H7 u (.tup us) u = some (.tup us) := upd_same
  try dsimp only
  generalize upd H7 u (.tup us) = H8 at s8 e8 ⊢
  refine ⟨_, rfl, rp, rs, rfl, .inl ⟨SqL.of ((s47.trans s8) _ _ er), fun r hr' => ?_⟩⟩
  have s9 := same_new hr' (.tup rs)
  have e9 : upd H8 r (.tup rs) r = some (.tup rs) := upd_same
  try dsimp only
  generalize upd H8 r (.tup rs) = H9 at s9 e9 ⊢
  refine ⟨_, rfl, ?_⟩
  refine ⟨(by show 3 ≤ sizeLine; decide), fun p hz_p => ?_⟩
  generalize hH_ : upd _ p _ = Hp
  obtain ⟨sp', ep⟩ := upd_new hH_ hz_p
  clear hH_
  have s89 := s8.trans (s9.trans sp')
  have s49 := s47.trans s89
  refine q p zs nr.toNat ps cc Hp (sH2.trans s49) ⟨u, r, g, us, rs, wy, gp, gc, ep, sp' _ _ (s9 _ _ e8), Paired.mapP pr' fun _ _ q => (q.same s2').same s49, sp' _ _ e9, rl, s89 _ _ e7, q5.same (s6.trans (s7.trans s89)), f6.same (s7.trans s89)⟩ ⟨by omega, fun z h => (hz z h).len, by omega, ?_, g6⟩
  rw [hl]
  exact p5
end
end Pw


set_option Elab.async false
set_option linter.all false
set_option maxRecDepth 100000
set_option maxHeartbeats 4000000
namespace Pw
open PySem L2
seal PE PT PW PA PS PSs PG PGs PI PIf PO PJ
theorem fewp {n : Int} (h0 : 0 ≤ n) (h1 : n < 2147483647) : Few (n + 1) := by
  unfold Few
  exact log_of (k := 32) (m := 1048576) (by omega) (by decide) (by decide)
section
variable {P : Program} {w : World} {K : PySem.W.Frag} {mg : Str → Option Value} {base : Heap} {f : Addr} {fd : FuncData}
def spTree (K : PySem.W.Frag) (n : Nat) : Sp := fun vs H Q _ => ∃ (c : Int) (p : Addr) (zs : List Str) (nr : Nat) (ps : Pq) (cc : Fq), vs = [.int c, .int n, .ref p] ∧ Few c ∧ PlanAt K H p zs nr ps cc ∧ POk zs nr ps cc ∧ ∀ t xs H', Same H H' → H' t = some (.tup xs) → Q (.ref t) H'
theorem sc_tree : FnScope ["_law_cell", "_law_deep", "_law_plan_here", "_law_kind", "_law_number", "_law_k", "_law_one"] ["_law_cell", "_law_deep", "_law_plan_here"] (defScope s_tree) := ⟨rfl, rfl, rfl, by decide +kernel, rfl, by decide +kernel, by decide +kernel⟩
theorem lk_tree__law_cell : (defScope s_tree).names.lookup ("_law_cell" : Str) = some .local := by decide +kernel
theorem lk_tree__law_deep : (defScope s_tree).names.lookup ("_law_deep" : Str) = some .local := by decide +kernel
theorem lk_tree__law_plan_here : (defScope s_tree).names.lookup ("_law_plan_here" : Str) = some .local := by decide +kernel
theorem lk_tree__law_kind : (defScope s_tree).names.lookup ("_law_kind" : Str) = some .local := by decide +kernel
theorem lk_tree__law_number : (defScope s_tree).names.lookup ("_law_number" : Str) = some .local := by decide +kernel
theorem lk_tree__law_k : (defScope s_tree).names.lookup ("_law_k" : Str) = some .local := by decide +kernel
theorem lk_tree__law_one : (defScope s_tree).names.lookup ("_law_one" : Str) = some .local := by decide +kernel
theorem lk_tree__law_fractions : (defScope s_tree).names.lookup ("_law_fractions" : Str) = some .globalImplicit := by decide +kernel
theorem lk_tree__law_mixed : (defScope s_tree).names.lookup ("_law_mixed" : Str) = some .globalImplicit := by decide +kernel
theorem lk_tree__law_tree : (defScope s_tree).names.lookup ("_law_tree" : Str) = some .globalImplicit := by decide +kernel
theorem lk_tree_len : (defScope s_tree).names.lookup ("len" : Str) = some .globalImplicit := by decide +kernel
theorem ok_tree {fDF fDL fDM fDFs : Addr} {dDF dDL dDM dDFs : FuncData} (T : DefAt K mg "_law_tree" s_tree f fd ["_law_cell", "_law_deep", "_law_plan_here"]) (B : Blt mg) (DF : DefAt K mg "_law_fraction" s_lfrac fDF dDF ["_law_cell"]) (DL : DefAt K mg "_law_lesser" s_lesser fDL dDL ["_law_top", "_law_bottom"]) (DM : DefAt K mg "_law_mixed" s_mixed fDM dDM ["_law_cell", "_law_k"]) (DFs : DefAt K mg "_law_fractions" s_fracs fDFs dDFs ["_law_cell", "_law_many"]) : ∀ n : Nat, FnOk P w K mg base CX0 (4 + n) f fd ["_law_cell", "_law_deep", "_law_plan_here"] (spTree K n) := by
  have OM : FnOk P w K mg base CX0 1 fDM dDM ["_law_cell", "_law_k"] spMixed := ok_mixed DM.F
  have OFs : FnOk P w K mg base CX0 3 fDFs dDFs ["_law_cell", "_law_many"] (spFrs K) := ok_fracs DFs.F B DF DL DM
  have main : ∀ (n j : Nat), (∀ m, n = m + 1 → FnOk P w K mg base CX0 j f fd ["_law_cell", "_law_deep", "_law_plan_here"] (spTree K m)) → 3 ≤ j → FnOk P w K mg base CX0 (j + 1) f fd ["_law_cell", "_law_deep", "_law_plan_here"] (spTree K n) := by
    intro n j ih hj
    have IH : FnOk P w K mg base CX0 j f fd ["_law_cell", "_law_deep", "_law_plan_here"] (fun vs H Q E => ∃ m, n = m + 1 ∧ spTree K m vs H Q E) := ⟨fun vs H Q E ⟨m, e, h⟩ => (ih m e).len vs H Q E h, fun A outer s H args us vs Q E r e b v ⟨m, em, h⟩ => (ih m em).run A outer s H args us vs Q E r e b v h⟩
    refine T.F.ok sc_tree (fun vs H Q E h => ?_) (fun cdv A outer s H vs Q E hrn h => ?_)
    · obtain ⟨_, _, _, _, _, _, rfl, _⟩ := h
      rfl
    obtain ⟨c, p, zs, nr, ps, cc, rfl, few, pa, po, q⟩ := h
    obtain ⟨u, r, g, us, rs, way, pvv, cv, p1, p2, p3, p4, p5, p6, p7, p8⟩ := id pa
    have nd := sc_tree.nd
    have hr1 : Room 1 _ := hrn.mono (by omega)
    have hr3 : Room 3 _ := hrn.mono (by omega)
    have hu0 := Nat.lt_of_le_of_lt (Nat.le_succ _) (hu_of hrn)
    have ul : us.length = zs.length := Paired.length p3
    have z4 := po.z4
    have r3 := po.r
    refine ⟨_, pss_cons (ps_set (i := 3) nd rfl (Or.inl lk_tree__law_kind) (pe_op op_mod (pe_op op_fdiv (pe_call OM hr1 lk_tree__law_mixed DM.m DM.F.kp DM.b .nil pass0 (pa_Name (pv 0 rfl (Or.inl lk_tree__law_cell)) (pa_Constant (pe_int) pa_nil))) (pe_int)) (pe_int)))
    (pss_cons (ps_if (PW.pt (pw_or (pt_cmpR op_eq (pv 1 rfl (Or.inl lk_tree__law_deep)) (pe_int) (nomark _)) (pw_or (pt_cmpR op_eq (pv 3 rfl (Or.inl lk_tree__law_kind)) (pe_int) (nomark _)) (pw_or1 (pt_cmpR (op_eqT0 (K := K) rfl hu0) (pe_ix ix_tup (pv 2 rfl (Or.inl lk_tree__law_plan_here)) (pe_int) (fun _ _ => rfl)) (pe_tup pa_nil) (nomark _)))))) (pss_one (ps_ret (pe_tup (pa_Subscript (pe_ix ix_list (pe_lst (pa_Constant (pe_str) (pa_Constant (pe_str) pa_nil))) (pe_op op_mod (pe_op op_fdiv (pe_call OM hr1 lk_tree__law_mixed DM.m DM.F.kp DM.b .nil pass0 (pa_Name (pv 0 rfl (Or.inl lk_tree__law_cell)) (pa_Constant (pe_int) pa_nil))) (pe_int)) (pe_int)) (fun _ _ => rfl)) (pa_Call (pe_call OFs hr3 lk_tree__law_fractions DFs.m DFs.F.kp DFs.b .nil pass0 (pa_Name (pv 0 rfl (Or.inl lk_tree__law_cell)) (pa_Call (pe_callB call_len_seq lk_tree_len B.len bt_len (pa_Subscript (pe_ix ix_tup (pv 2 rfl (Or.inl lk_tree__law_plan_here)) (pe_int) (fun _ _ => rfl)) pa_nil)) pa_nil))) pa_nil))))) (pss_nil))
    (pss_cons (ps_set (i := 4) nd rfl (Or.inl lk_tree__law_number) (pe_op op_mod (pe_op op_fdiv (pe_call OM hr1 lk_tree__law_mixed DM.m DM.F.kp DM.b .nil pass0 (pa_Name (pv 0 rfl (Or.inl lk_tree__law_cell)) (pa_Constant (pe_int) pa_nil))) (pe_int)) (pe_callB call_len_seq lk_tree_len B.len bt_len (pa_Subscript (pe_ix ix_tup (pv 2 rfl (Or.inl lk_tree__law_plan_here)) (pe_int) (fun _ _ => rfl)) pa_nil))))
    (pss_cons (ps_set (i := 5) nd rfl (Or.inl lk_tree__law_k) (pe_op op_sub (pe_op op_mod (pe_op op_fdiv (pe_call OM hr1 lk_tree__law_mixed DM.m DM.F.kp DM.b .nil pass0 (pa_Name (pv 0 rfl (Or.inl lk_tree__law_cell)) (pa_Constant (pe_int) pa_nil))) (pe_int)) (pe_int)) (pe_int)))
    (pss_cons (ps_set (i := 6) nd rfl (Or.inl lk_tree__law_one) (pe_call IH hrn lk_tree__law_tree T.m T.F.kp T.b .nil pass0 (pa_Call (pe_call OM hr1 lk_tree__law_mixed DM.m DM.F.kp DM.b .nil pass0 (pa_Name (pv 0 rfl (Or.inl lk_tree__law_cell)) (pa_Constant (pe_int) pa_nil))) (pa_BinOp (pe_op op_sub (pv 1 rfl (Or.inl lk_tree__law_deep)) (pe_int)) (pa_Name (pv 2 rfl (Or.inl lk_tree__law_plan_here)) pa_nil)))))
    (pss_one (ps_ret (pe_tup (pa_Constant (pe_str) (pa_Name (pv 4 rfl (Or.inl lk_tree__law_number)) (pa_Name (pv 5 rfl (Or.inl lk_tree__law_k)) (pa_Name (pv 6 rfl (Or.inl lk_tree__law_one)) (pa_Call (pe_call IH hrn lk_tree__law_tree T.m T.F.kp T.b .nil pass0 (pa_Call (pe_call OM hr1 lk_tree__law_mixed DM.m DM.F.kp DM.b .nil pass0 (pa_Name (pv 0 rfl (Or.inl lk_tree__law_cell)) (pa_Constant (pe_int) pa_nil))) (pa_BinOp (pe_op op_sub (pv 1 rfl (Or.inl lk_tree__law_deep)) (pe_int)) (pa_Name (pv 2 rfl (Or.inl lk_tree__law_plan_here)) pa_nil)))) pa_nil)))))))))))), ?_⟩
    refine ⟨_, rfl, c, 1, rfl, few, by decide, by decide, fun m1 a1 b1 => ⟨_, _, rfl, rfl, ⟨by decide, by decide⟩, _, _, rfl, rfl, (by show (0 : Int) < 4; decide), ?_⟩⟩
    try dsimp only
    generalize m1 / 7 % 4 = kd
    dsimp only [tSeq, gName]
    refine ifS_by (b := (decide (V.int (n : Int) = .int 0) || (decide (V.int kd = .int 0) || us.isEmpty))) (Tells.or (fun R hR => ⟨_, rfl, rfl, _, rfl, hR _ Same.refl'⟩) fun _ H1 s1 => Tells.or (fun R hR => ⟨_, rfl, rfl, _, rfl, hR _ Same.refl'⟩) fun _ H2 s2 R hR => ?_) (fun hb H1 s1 => ?_) (fun hb H1 s1 => ?_)
    · refine ⟨_, rfl, p, _, _, _, rfl, rfl, SqT.of (s2 _ _ (s1 _ _ p1)), rfl, ?_⟩
      refine ⟨(Nat.zero_le _), fun t hz_t => ?_⟩
      generalize hH_ : upd _ t _ = H3
      obtain ⟨s3, e3⟩ := upd_new hH_ hz_t
      clear hH_
      exact ⟨u, t, us, rfl, rfl, SqT.of (s3 _ _ (s2 _ _ (s1 _ _ p2))), SqT.of e3, _, rfl, hR _ s3⟩
    · refine ⟨(by show 2 ≤ sizeLine; decide), fun l hz_l => ?_⟩
      generalize hH_ : upd _ l _ = H2
      obtain ⟨s2, e2⟩ := upd_new hH_ hz_l
      clear hH_
      refine ⟨_, rfl, c, 2, rfl, few, by decide, by decide, fun m2 a2 b2 => ⟨_, _, rfl, rfl, ⟨by decide, by decide⟩, _, _, rfl, rfl, (by show (0 : Int) < 2; decide), ?_⟩⟩
      obtain ⟨wd, ew, _⟩ := pickL (xs := [V.str "floor", .str "none"]) (n := 2) rfl (by decide) (m2 / 7)
      refine ⟨l, _, _, _, rfl, rfl, SqL.of e2, ew, ?_⟩
      have s12 := s1.trans s2
      refine ⟨_, rfl, _, rfl, p, _, _, _, rfl, rfl, SqT.of (s12 _ _ p1), rfl, r, rs, rfl, .inr (SqT.of (s12 _ _ p4)), c, _, rfl, few, by omega, by omega, fun vp vals H3 s3 e3 _ _ => ?_⟩
      refine ⟨(by show 2 ≤ sizeLine; decide), fun t hz_t => ?_⟩
      generalize hH_ : upd _ t _ = H4
      obtain ⟨s4, e4⟩ := upd_new hH_ hz_t
      clear hH_
      exact q t _ H4 (s12.trans (s3.trans s4)) e4
    rw [Bool.or_eq_false_iff, Bool.or_eq_false_iff] at hb
    obtain ⟨h0, _, h2⟩ := hb
    have hn : n ≠ 0 := fun z => by
      subst z
      exact absurd h0 (by decide)
    obtain ⟨m, rfl⟩ : ∃ m, n = m + 1 := ⟨n - 1, by omega⟩
    have un : 0 < us.length := by
      cases us with
      | nil => cases h2
      | cons x xs => exact Nat.succ_pos _
    refine ⟨_, rfl, c, 3, rfl, few, by decide, by decide, fun m3 a3 b3 => ⟨_, _, rfl, rfl, ⟨by decide, by decide⟩, ?_⟩⟩
    refine ⟨_, rfl, p, _, _, _, rfl, rfl, SqT.of (s1 _ _ p1), rfl, u, us, rfl, .inr (SqT.of (s1 _ _ p2)), _, _, rfl, rfl, (by show (0 : Int) < (us.length : Int); omega), ?_⟩
    refine ⟨_, rfl, c, 4, rfl, few, by decide, by decide, fun m4 a4 b4 => ⟨_, _, rfl, rfl, ⟨by decide, by decide⟩, _, _, rfl, rfl, (by show (0 : Int) < 2001; decide), _, _, rfl, rfl, ?_⟩⟩
    have dm : ((m + 1 : Nat) : Int) - 1 = (m : Int) := by omega
    refine ⟨_, rfl, c, 5, rfl, few, by decide, by decide, fun m5 a5 b5 => ⟨_, rfl, _, _, rfl, rfl, _, rfl, m, rfl, m5, p, zs, nr, ps, cc, (by show [V.int m5, V.int (((m + 1 : Nat) : Int) - 1), V.ref p] = _; rw [dm]), few31 a5 b5, pa.same s1, po, fun t1 xs1 H2 s2 e2 => ?_⟩⟩
    refine ⟨_, rfl, _, rfl, _, rfl, _, rfl, c, 6, rfl, few, by decide, by decide, fun m6 a6 b6 => ⟨_, rfl, _, _, rfl, rfl, _, rfl, m, rfl, m6, p, zs, nr, ps, cc, (by show [V.int m6, V.int (((m + 1 : Nat) : Int) - 1), V.ref p] = _; rw [dm]), few31 a6 b6, (pa.same s1).same s2, po, fun t2 xs2 H3 s3 e3 => ?_⟩⟩
    refine ⟨(by show 5 ≤ sizeLine; decide), fun t hz_t => ?_⟩
    generalize hH_ : upd _ t _ = H4
    obtain ⟨s4, e4⟩ := upd_new hH_ hz_t
    clear hH_
    exact q t _ H4 (s1.trans (s2.trans (s3.trans s4))) e4
  intro n
  induction n with
  | zero => exact main 0 3 (fun m e => by cases e) (by decide)
  | succ n ih => exact main (n + 1) (4 + n) (fun m e => by cases e; exact ih) (by omega)
inductive Out where
  | best (vals : List Fq) | non | end_ (vals : List Fq)
def OutAt (K : PySem.W.Frag) (H : Hp) (o : Addr) : Out → Prop
  | .best vals => ∃ v t, H o = some (.tup [.str "best", .ref v, t]) ∧ ValAt K H v vals
  | .non => ∃ t, H o = some (.tup [.str "none", t])
  | .end_ vals => ∃ v t, H o = some (.tup [.str "endless", .ref v, t]) ∧ ValAt K H v vals
def OOk (n : Nat) : Out → Prop
  | .best vals => vals.length = n ∧ ∀ x ∈ vals, Gd 40 x
  | .non => True
  | .end_ vals => vals.length = n ∧ ∀ x ∈ vals, Gd 40 x
theorem OutAt.same {K : PySem.W.Frag} {H H' : Hp} {o : Addr} {ou : Out} (e : Same H H') (h : OutAt K H o ou) : OutAt K H' o ou := by
  cases ou with
  | best vals => obtain ⟨v, t, a, b⟩ := h; exact ⟨v, t, e _ _ a, b.same e⟩
  | non => obtain ⟨t, a⟩ := h; exact ⟨t, e _ _ a⟩
  | end_ vals => obtain ⟨v, t, a, b⟩ := h; exact ⟨v, t, e _ _ a, b.same e⟩
def spOut (K : PySem.W.Frag) : Sp := fun vs H Q _ => ∃ (a : Addr) (ns : List Int) (p : Addr) (zs : List Str) (nr : Nat) (ps : Pq) (cc : Fq), vs = [.ref a, .ref p] ∧ SqL K H a (ns.map V.int) ∧ (∀ i ∈ ns, Few i) ∧ PlanAt K H p zs nr ps cc ∧ POk zs nr ps cc ∧ ∀ o ou H', Same H H' → OutAt K H' o ou → OOk zs.length ou → Q (.ref o) H'
theorem sc_outcome : FnScope ["_law_script", "_law_plan_here", "_law_cell", "_law_values", "_law_tree_here", "_law_way"] ["_law_script", "_law_plan_here"] (defScope s_outcome) := ⟨rfl, rfl, rfl, by decide +kernel, rfl, by decide +kernel, by decide +kernel⟩
theorem lk_outcome__law_script : (defScope s_outcome).names.lookup ("_law_script" : Str) = some .local := by decide +kernel
theorem lk_outcome__law_plan_here : (defScope s_outcome).names.lookup ("_law_plan_here" : Str) = some .local := by decide +kernel
theorem lk_outcome__law_cell : (defScope s_outcome).names.lookup ("_law_cell" : Str) = some .local := by decide +kernel
theorem lk_outcome__law_values : (defScope s_outcome).names.lookup ("_law_values" : Str) = some .local := by decide +kernel
theorem lk_outcome__law_tree_here : (defScope s_outcome).names.lookup ("_law_tree_here" : Str) = some .local := by decide +kernel
theorem lk_outcome__law_way : (defScope s_outcome).names.lookup ("_law_way" : Str) = some .local := by decide +kernel
theorem lk_outcome__law_at : (defScope s_outcome).names.lookup ("_law_at" : Str) = some .globalImplicit := by decide +kernel
theorem lk_outcome__law_fractions : (defScope s_outcome).names.lookup ("_law_fractions" : Str) = some .globalImplicit := by decide +kernel
theorem lk_outcome__law_mixed : (defScope s_outcome).names.lookup ("_law_mixed" : Str) = some .globalImplicit := by decide +kernel
theorem lk_outcome__law_tree : (defScope s_outcome).names.lookup ("_law_tree" : Str) = some .globalImplicit := by decide +kernel
theorem lk_outcome_len : (defScope s_outcome).names.lookup ("len" : Str) = some .globalImplicit := by decide +kernel
theorem ok_outcome {fDF fDL fDM fDFs fDTr fDA : Addr} {dDF dDL dDM dDFs dDTr dDA : FuncData} (F : Fun K "_law_outcome" "_law_outcome" s_outcome f fd) (B : Blt mg) (DF : DefAt K mg "_law_fraction" s_lfrac fDF dDF ["_law_cell"]) (DL : DefAt K mg "_law_lesser" s_lesser fDL dDL ["_law_top", "_law_bottom"]) (DM : DefAt K mg "_law_mixed" s_mixed fDM dDM ["_law_cell", "_law_k"]) (DFs : DefAt K mg "_law_fractions" s_fracs fDFs dDFs ["_law_cell", "_law_many"]) (DTr : DefAt K mg "_law_tree" s_tree fDTr dDTr ["_law_cell", "_law_deep", "_law_plan_here"]) (DA : DefAt K mg "_law_at" s_lat fDA dDA ["_law_script", "_law_k"]) : FnOk P w K mg base CX0 8 f fd ["_law_script", "_law_plan_here"] (spOut K) := by
  have OM : FnOk P w K mg base CX0 1 fDM dDM ["_law_cell", "_law_k"] spMixed := ok_mixed DM.F
  have OA : FnOk P w K mg base CX0 1 fDA dDA ["_law_script", "_law_k"] (spCell K) := ok_lat DA.F B
  have OFs : FnOk P w K mg base CX0 3 fDFs dDFs ["_law_cell", "_law_many"] (spFrs K) := ok_fracs DFs.F B DF DL DM
  have OT : FnOk P w K mg base CX0 7 fDTr dDTr ["_law_cell", "_law_deep", "_law_plan_here"] (fun vs H Q E => ∃ n, n ≤ 3 ∧ spTree K n vs H Q E) :=
    ⟨fun vs H Q E ⟨n, hn, h⟩ => (ok_tree (P := P) (w := w) (base := base) DTr B DF DL DM DFs n).len vs H Q E h, fun A outer s H args us vs Q E r e b v ⟨n, hn, h⟩ => ((ok_tree DTr B DF DL DM DFs n).mono (by omega)).run A outer s H args us vs Q E r e b v h⟩
  refine F.ok sc_outcome (fun vs H Q E h => ?_) (fun cdv A outer s H vs Q E hr h => ?_)
  · obtain ⟨_, _, _, _, _, _, _, rfl, _⟩ := h
    rfl
  obtain ⟨a, ns, p, zs, nr, ps, cc, rfl, hS, few, pa, po, q⟩ := h
  obtain ⟨u, r, g, us, rs, way, pvv, cv, p1, p2, p3, p4, p5, p6, p7, p8⟩ := id pa
  have nd := sc_outcome.nd
  have hr1 : Room 1 _ := hr.mono (by decide)
  have hr3 : Room 3 _ := hr.mono (by decide)
  have ul : us.length = zs.length := Paired.length p3
  have z4 := po.z4
  refine ⟨_, pss_cons (ps_set (i := 2) nd rfl (Or.inl lk_outcome__law_cell) (pe_call OM hr1 lk_outcome__law_mixed DM.m DM.F.kp DM.b .nil pass0 (pa_Call (pe_call OA hr1 lk_outcome__law_at DA.m DA.F.kp DA.b .nil pass0 (pa_Name (pv 0 rfl (Or.inl lk_outcome__law_script)) (pa_Constant (pe_int) pa_nil))) (pa_Constant (pe_int) pa_nil))))
    (pss_cons (ps_set (i := 3) nd rfl (Or.inl lk_outcome__law_values) (pe_call OFs hr3 lk_outcome__law_fractions DFs.m DFs.F.kp DFs.b .nil pass0 (pa_Name (pv 2 rfl (Or.inl lk_outcome__law_cell)) (pa_Call (pe_callB call_len_seq lk_outcome_len B.len bt_len (pa_Subscript (pe_ix ix_tup (pv 1 rfl (Or.inl lk_outcome__law_plan_here)) (pe_int) (fun _ _ => rfl)) pa_nil)) pa_nil))))
    (pss_cons (ps_set (i := 4) nd rfl (Or.inl lk_outcome__law_tree_here) (pe_call OT hr lk_outcome__law_tree DTr.m DTr.F.kp DTr.b .nil pass0 (pa_Call (pe_call OM hr1 lk_outcome__law_mixed DM.m DM.F.kp DM.b .nil pass0 (pa_Name (pv 2 rfl (Or.inl lk_outcome__law_cell)) (pa_Constant (pe_int) pa_nil))) (pa_BinOp (pe_op op_mod (pe_call OA hr1 lk_outcome__law_at DA.m DA.F.kp DA.b .nil pass0 (pa_Name (pv 0 rfl (Or.inl lk_outcome__law_script)) (pa_Constant (pe_int) pa_nil))) (pe_int)) (pa_Name (pv 1 rfl (Or.inl lk_outcome__law_plan_here)) pa_nil)))))
    (pss_cons (ps_set (i := 5) nd rfl (Or.inl lk_outcome__law_way) (pe_call OFs hr3 lk_outcome__law_fractions DFs.m DFs.F.kp DFs.b .nil pass0 (pa_BinOp (pe_op op_add (pv 2 rfl (Or.inl lk_outcome__law_cell)) (pe_int)) (pa_Call (pe_callB call_len_seq lk_outcome_len B.len bt_len (pa_Subscript (pe_ix ix_tup (pv 1 rfl (Or.inl lk_outcome__law_plan_here)) (pe_int) (fun _ _ => rfl)) pa_nil)) pa_nil))))
    (pss_one (ps_ret (pe_ix ix_list (pe_lst (pa_Tuple (pe_tup (pa_Constant (pe_str) (pa_Name (pv 3 rfl (Or.inl lk_outcome__law_values)) (pa_Name (pv 4 rfl (Or.inl lk_outcome__law_tree_here)) pa_nil)))) (pa_Tuple (pe_tup (pa_Constant (pe_str) (pa_Name (pv 4 rfl (Or.inl lk_outcome__law_tree_here)) pa_nil))) (pa_Tuple (pe_tup (pa_Constant (pe_str) (pa_Name (pv 3 rfl (Or.inl lk_outcome__law_values)) (pa_Name (pv 5 rfl (Or.inl lk_outcome__law_way)) pa_nil)))) pa_nil)))) (pe_op op_mod (pe_op op_fdiv (pv 2 rfl (Or.inl lk_outcome__law_cell)) (pe_int)) (pe_int)) (fun _ _ => rfl))))))), ?_⟩
  refine ⟨_, rfl, a, ns, 4, rfl, hS, few, by decide, fun n1 f1 => ⟨n1, 2, rfl, f1, by decide, by decide, fun c a1 b1 => ?_⟩⟩
  have fc := few31 a1 b1
  refine ⟨_, rfl, _, rfl, p, _, _, _, rfl, rfl, SqT.of p1, rfl, u, us, rfl, .inr (SqT.of p2), c, _, rfl, fc, by omega, by omega, fun vp vals H1 s1 v1 l1 g1 => ?_⟩
  refine ⟨_, rfl, c, 3, rfl, fc, by decide, by decide, fun m2 a2 b2 => ⟨_, rfl, a, ns, 5, rfl, s1.seq hS, few, by decide, fun n2 f2 => ⟨_, _, rfl, rfl, (by show (0 : Int) < 4; decide), _, rfl, ?_⟩⟩⟩
  have d0 := Int.emod_nonneg n2 (show (4 : Int) ≠ 0 by decide)
  have d1 := Int.emod_lt_of_pos n2 (show (0 : Int) < 4 by decide)
  have ed : n2 % 4 = (((n2 % 4).toNat : Nat) : Int) := by omega
  refine ⟨(n2 % 4).toNat, by omega, m2, p, zs, nr, ps, cc, by rw [← ed]; rfl, few31 a2 b2, pa.same s1, po, fun t xs H2 s2 e2 => ?_⟩
  have s12 := s1.trans s2
  refine ⟨_, rfl, _, _, rfl, rfl, _, rfl, p, _, _, _, rfl, rfl, SqT.of (s12 _ _ p1), rfl, u, us, rfl, .inr (SqT.of (s12 _ _ p2)), c + 1, _, rfl, fewp a1 b1, by omega, by omega, fun wp wals H3 s3 v3 l3 g3 => ?_⟩
  refine ⟨_, rfl, _, rfl, ?_⟩
  refine ⟨(by show 3 ≤ sizeLine; decide), fun t1 hz_t1 => ?_⟩
  generalize hH_ : upd _ t1 _ = H4
  obtain ⟨s4, e4⟩ := upd_new hH_ hz_t1
  clear hH_
  refine ⟨_, rfl, ?_⟩
  refine ⟨(by show 2 ≤ sizeLine; decide), fun t2 hz_t2 => ?_⟩
  generalize hH_ : upd _ t2 _ = H5
  obtain ⟨s5, e5⟩ := upd_new hH_ hz_t2
  clear hH_
  refine ⟨_, rfl, _, rfl, ?_⟩
  refine ⟨(by show 3 ≤ sizeLine; decide), fun t3 hz_t3 => ?_⟩
  generalize hH_ : upd _ t3 _ = H6
  obtain ⟨s6, e6⟩ := upd_new hH_ hz_t3
  clear hH_
  refine ⟨(by show 3 ≤ sizeLine; decide), fun l hz_l => ?_⟩
  generalize hH_ : upd _ l _ = H7
  obtain ⟨s7, e7⟩ := upd_new hH_ hz_l
  clear hH_
  obtain ⟨x, ex, hx⟩ := pickL (xs := [V.ref t1, .ref t2, .ref t3]) (n := 3) rfl (by decide) (c / 7)
  refine ⟨_, rfl, _, _, rfl, rfl, ⟨by decide, by decide⟩, _, _, rfl, rfl, (by show (0 : Int) < 3; decide), l, _, _, _, rfl, rfl, SqL.of e7, ex, ?_⟩
  have s47 := s4.trans (s5.trans (s6.trans s7))
  have s17 := s12.trans (s3.trans s47)
  have vv := (v1.same s2).same (s3.trans s47)
  have ok : vals.length = zs.length ∧ ∀ x ∈ vals, Gd 40 x := ⟨by rw [l1]; omega, g1⟩
  simp only [List.mem_cons, List.not_mem_nil, or_false] at hx
  rcases hx with rfl | rfl | rfl
  · exact q t1 (.best vals) H7 s17 ⟨vp, _, (s5.trans (s6.trans s7)) _ _ e4, vv⟩ ok
  · exact q t2 .non H7 s17 ⟨_, (s6.trans s7) _ _ e5⟩ trivial
  · exact q t3 (.end_ vals) H7 s17 ⟨vp, _, s7 _ _ e6, vv⟩ ok
end
end Pw


set_option Elab.async false
set_option linter.all false
set_option maxRecDepth 100000
set_option maxHeartbeats 4000000
namespace Pw
open PySem L2
seal PE PT PW PA PS PSs PG PGs PI PIf PO PJ
theorem ifS_jn {c : TT} {t u : TS} {D : Ends} {σ : St} {H : Hp} {b : Bool} (J : St → Hp → Prop) (hc : Tells c σ H b) (h1 : b = true → ∀ H', Same H H' → ∀ Dn : St → Hp → Prop, (∀ σ' H', J σ' H' → Dn σ' H') → t { D with nx := Dn } σ H') (h0 : b = false → ∀ H', Same H H' → ∀ Dn : St → Hp → Prop, (∀ σ' H', J σ' H' → Dn σ' H') → u { D with nx := Dn } σ H')
    (hJ : ∀ σ' H', J σ' H' → D.nx σ' H') : tIfS c t u D σ H := ifS_by hc (fun e H' s => h1 e H' s D.nx hJ) (fun e H' s => h0 e H' s D.nx hJ)
theorem atI_zero {α : Type} (x : α) (xs : List α) : atI (x :: xs) 0 = some x := atI_nat (j := 0) rfl
def rwS (vals : List Fq) (t : Fq) (m : Int × Fq) : Fq := (t.1 * (m.2.2 * (vals.getD m.1.toNat (0, 1)).2) + (m.2.1 * (vals.getD m.1.toNat (0, 1)).1) * t.2, t.2 * (m.2.2 * (vals.getD m.1.toNat (0, 1)).2))
def rwF (c : Fq) (ms : Pq) (vals : List Fq) : Fq := ms.foldl (rwS vals) c
theorem rw_snoc (c : Fq) (ms : Pq) (vals : List Fq) (m : Int × Fq) : rwF c (ms ++ [m]) vals = rwS vals (rwF c ms vals) m := by
  unfold rwF
  rw [List.foldl_append]
  rfl
theorem rw_lin (vals : List Fq) : ∀ (ms : Pq) (t b : Int), rwF (t, b) ms vals = (t * (rwF (0, 1) ms vals).2 + (rwF (0, 1) ms vals).1 * b, b * (rwF (0, 1) ms vals).2)
  | [], t, b => by
    show (t, b) = (t * 1 + 0 * b, b * 1)
    rw [Int.mul_one, Int.zero_mul, Int.add_zero, Int.mul_one]
  | m :: ms, t, b => by
    show rwF (rwS vals (t, b) m) ms vals = (t * (rwF (rwS vals (0, 1) m) ms vals).2 + (rwF (rwS vals (0, 1) m) ms vals).1 * b, b * (rwF (rwS vals (0, 1) m) ms vals).2)
    unfold rwS
    rw [rw_lin vals ms _ _, rw_lin vals ms (0 * _ + _) _]
    dsimp only
    try dsimp only
    generalize (rwF (0, 1) ms vals).1 = N
    try dsimp only
    generalize (rwF (0, 1) ms vals).2 = O
    refine Prod.ext ?_ ?_
    · show _ = _
      grind
    · show _ = _
      grind
theorem val_gd {vals : List Fq} {k : Nat} (gv : ∀ x ∈ vals, Gd k x) {n : Int} (h0 : 0 ≤ n) (h1 : n < vals.length) : Gd k (vals.getD n.toNat (0, 1)) := by
  have hn : n.toNat < vals.length := by omega
  have ev : vals.getD n.toNat (0, 1) = vals[n.toNat] := by simp [hn]
  rw [ev]
  exact gv _ (List.getElem_mem hn)
theorem wrt_rw {k : Nat} {vals : List Fq} (gv : ∀ x ∈ vals, Gd k x) : ∀ (ms : Pq) (c c' : Fq), (∀ m ∈ ms, Red m.2 ∧ 0 ≤ m.1 ∧ m.1 < vals.length) → Red c → 0 < c'.2 → c.1 * c'.2 = c'.1 * c.2 →
    Red (wrt c ms vals) ∧ 0 < (rwF c' ms vals).2 ∧ (wrt c ms vals).1 * (rwF c' ms vals).2 = (rwF c' ms vals).1 * (wrt c ms vals).2
  | [], c, c', _, rc, h0, e => ⟨rc, h0, e⟩
  | m :: ms, c, c', h, rc, h0, e => by
    obtain ⟨rm, m0, m1⟩ := h m (.head _)
    have rv := (val_gd gv m0 m1).1
    refine wrt_rw gv ms (plF c (tiF m.2 (vals.getD m.1.toNat (0, 1)))) (rwS vals c' m) (fun x hx => h x (.tail _ hx)) (rc.plus (rm.times rv)) ?_ ?_
    · exact Int.mul_pos h0 (rm.mul_pos rv)
    · unfold rwS
      dsimp only
      have rt := rm.times rv
      have e1 := mk_cross (t := c.1 * (tiF m.2 (vals.getD m.1.toNat (0, 1))).2 + (tiF m.2 (vals.getD m.1.toNat (0, 1))).1 * c.2) (rc.mul rt)
      have e2 := mk_cross (t := m.2.1 * (vals.getD m.1.toNat (0, 1)).1) (rm.mul rv)
      have nz := rc.mul rt
      change (tiF m.2 (vals.getD m.1.toNat (0, 1))).1 * _ = _ * (tiF m.2 (vals.getD m.1.toNat (0, 1))).2 at e2
      change (plF c (tiF m.2 (vals.getD m.1.toNat (0, 1)))).1 * _ = _ * (plF c (tiF m.2 (vals.getD m.1.toNat (0, 1)))).2 at e1
      try dsimp only
      generalize tiF m.2 (vals.getD m.1.toNat (0, 1)) = bb at e1 e2 nz ⊢
      try dsimp only
      generalize plF c bb = P at e1 ⊢
      try dsimp only
      generalize m.2.2 * (vals.getD m.1.toNat (0, 1)).2 = o at e2 ⊢
      try dsimp only
      generalize m.2.1 * (vals.getD m.1.toNat (0, 1)).1 = n at e2 ⊢
      obtain ⟨P1, P2⟩ := P
      obtain ⟨c1, c2⟩ := c
      obtain ⟨d1, d2⟩ := c'
      obtain ⟨b1, b2⟩ := bb
      dsimp only at e e1 e2 nz ⊢
      refine Int.eq_of_mul_eq_mul_right nz ?_
      have q1 : P1 * (d2 * o) * (c2 * b2) = (P1 * (c2 * b2)) * (d2 * o) := by grind
      have q2 : (c1 * b2 + b1 * c2) * P2 * (d2 * o) = ((c1 * d2) * (b2 * o) + (b1 * o) * (c2 * d2)) * P2 := by grind
      have q3 : ((d1 * c2) * (b2 * o) + (n * b2) * (c2 * d2)) * P2 = (d1 * o + n * d2) * P2 * (c2 * b2) := by grind
      rw [q1, e1, q2, e, e2, q3]
theorem worth_eq {k : Nat} {vals : List Fq} {ms : Pq} {c : Fq} (gv : ∀ x ∈ vals, Gd k x) (h : ∀ m ∈ ms, Red m.2 ∧ 0 ≤ m.1 ∧ m.1 < vals.length) (rc : Red c) : 0 < (rwF c ms vals).2 ∧ mkF (rwF c ms vals).1 (rwF c ms vals).2 = plF (wrt (0, 1) ms vals) c := by
  obtain ⟨rw0, o0, ew⟩ := wrt_rw gv ms (0, 1) (0, 1) h red_one (by decide) rfl
  have el := rw_lin vals ms c.1 c.2
  have c0 : 0 < c.2 := by have := rc.1; omega
  have bp : 0 < (rwF c ms vals).2 := by
    rw [show rwF c ms vals = rwF (c.1, c.2) ms vals from rfl, el]
    exact Int.mul_pos c0 o0
  refine ⟨bp, red_uniq (mk_red (by omega)) (rw0.plus rc) ?_⟩
  have e1 := mk_cross (t := (rwF c ms vals).1) (b := (rwF c ms vals).2) (by omega)
  have e2 := mk_cross (t := (wrt (0, 1) ms vals).1 * c.2 + c.1 * (wrt (0, 1) ms vals).2) (rw0.mul rc)
  change (plF (wrt (0, 1) ms vals) c).1 * _ = _ * (plF (wrt (0, 1) ms vals) c).2 at e2
  rw [show rwF c ms vals = rwF (c.1, c.2) ms vals from rfl, el] at e1 ⊢
  have nz : (wrt (0, 1) ms vals).2 * c.2 * (c.2 * (rwF (0, 1) ms vals).2) ≠ 0 := Int.mul_ne_zero (rw0.mul rc) (Int.mul_ne_zero (by omega) (by omega))
  dsimp only at e1 ⊢
  try dsimp only
  generalize mkF (c.1 * (rwF (0, 1) ms vals).2 + (rwF (0, 1) ms vals).1 * c.2) (c.2 * (rwF (0, 1) ms vals).2) = M at e1 ⊢
  try dsimp only
  generalize plF (wrt (0, 1) ms vals) c = L at e2 ⊢
  try dsimp only
  generalize wrt (0, 1) ms vals = W at ew e2 nz
  try dsimp only
  generalize rwF (0, 1) ms vals = R at ew e1 nz
  obtain ⟨M1, M2⟩ := M
  obtain ⟨L1, L2⟩ := L
  obtain ⟨W1, W2⟩ := W
  obtain ⟨N, O⟩ := R
  obtain ⟨c1, c2⟩ := c
  dsimp only at e1 e2 ew nz ⊢
  refine Int.eq_of_mul_eq_mul_right nz ?_
  have q1 : M1 * L2 * (W2 * c2 * (c2 * O)) = (M1 * (c2 * O)) * (L2 * (W2 * c2)) := by grind
  have q2 : L1 * M2 * (W2 * c2 * (c2 * O)) = (L1 * (W2 * c2)) * (M2 * (c2 * O)) := by grind
  have q3 : (W1 * c2 + c1 * W2) * L2 * (M2 * (c2 * O)) = ((W1 * O) * (c2 * c2) + c1 * W2 * (c2 * O)) * (L2 * M2) := by grind
  have q4 : ((N * W2) * (c2 * c2) + c1 * W2 * (c2 * O)) * (L2 * M2) = (c1 * O + N * c2) * M2 * (L2 * (W2 * c2)) := by grind
  rw [q1, q2, e1, e2, q3, ew, q4]
theorem rw_fb {k : Nat} {vals : List Fq} (gv : ∀ x ∈ vals, Gd k x) {m : Int × Fq} (gm : Gd 101 m.2) (hk : k ≤ 101) (h0 : 0 ≤ m.1) (h1 : m.1 < vals.length) {j : Nat} {t : Fq} (ht : Fb j t) : Fb (j + 203) (rwS vals t m) := by
  have g2 := ((val_gd gv h0 h1).mono hk).2
  have ho := mul_lt gm.2.2 g2.2
  have hn := mul_lt gm.2.1 g2.1
  refine ⟨?_, ?_⟩
  · exact pow_up (add_lt (mul_lt ht.1 ho) (by rw [Nat.add_comm j]; exact mul_lt hn ht.2)) (by omega)
  · exact pow_up (mul_lt ht.2 ho) (by omega)
section
variable {P : Program} {w : World} {K : PySem.W.Frag} {mg : Str → Option Value} {base : Heap} {f : Addr} {fd : FuncData}
def wOf (ps : Pq) (cc : Fq) (vals : List Fq) : Fq := plF (wrt (0, 1) ps vals) cc
def spWof (K : PySem.W.Frag) : Sp := fun vs H Q _ => ∃ p w zs nr ps cc vals, vs = [.ref p, .ref w] ∧ PlanAt K H p zs nr ps cc ∧ POk zs nr ps cc ∧ ValAt K H w vals ∧ vals.length = zs.length ∧ (∀ x ∈ vals, Gd 40 x) ∧ ∀ r H', Same H H' → IsF K H' r (wOf ps cc vals) → Gd 1500 (wOf ps cc vals) → Q r H'
theorem sc_worth_of : FnScope ["plan", "values"] ["plan", "values"] (defScope s_worth_of) := ⟨rfl, rfl, rfl, by decide +kernel, rfl, by decide +kernel, by decide +kernel⟩
theorem lk_worth_of_plan : (defScope s_worth_of).names.lookup ("plan" : Str) = some .local := by decide +kernel
theorem lk_worth_of_values : (defScope s_worth_of).names.lookup ("values" : Str) = some .local := by decide +kernel
theorem lk_worth_of_pairs_at : (defScope s_worth_of).names.lookup ("pairs_at" : Str) = some .globalImplicit := by decide +kernel
theorem lk_worth_of_plus : (defScope s_worth_of).names.lookup ("plus" : Str) = some .globalImplicit := by decide +kernel
theorem ok_worth_of {ff fg CB aN fDP fDT fDW fDPA : Addr} {df dg dDP dDT dDW dDPA : FuncData} {dV : Value} {ds : List Value} (F : Fun K "worth_of" "worth_of" s_worth_of f fd) (B : Blt mg) (C : Cst K mg aN) (D : DefD K mg "fraction" s_fraction dV ff df ["top", "bottom"] ds) (G : DefAt K mg "greatest_divisor" s_greatest_divisor fg dg ["one", "other"]) (X : BadF K mg CB) (DP : DefAt K mg "plus" s_plus fDP dDP ["one", "other"]) (DT : DefAt K mg "times" s_times fDT dDT ["one", "other"]) (DW : DefAt K mg "worth" s_worth fDW dDW ["one", "values"]) (DPA : DefAt K mg "pairs_at" s_pairs_at fDPA dDPA ["pairs", "values"]) : FnOk P w K mg base CX0 7 f fd ["plan", "values"] (spWof K) := by
  have OP : FnOk P w K mg base CX0 4 fDP dDP ["one", "other"] (spBin K plF) := (ok_plus DP.F B D G X).to0
  have OA : FnOk P w K mg base CX0 6 fDPA dDPA ["pairs", "values"] (spPA K) := ok_pairs_at DPA.F B C D G X DP DT DW
  refine F.ok sc_worth_of (fun vs H Q E h => ?_) (fun cdv A outer s H vs Q E hr h => ?_)
  · obtain ⟨_, _, _, _, _, _, _, rfl, _⟩ := h
    rfl
  obtain ⟨p, w0, zs, nr, ps, cc, vals, rfl, pa, po, ⟨fs, hw, pf⟩, vl, gv, k⟩ := h
  obtain ⟨u, r, g, us, rs, way, pv', cv, p1, p2, p3, p4, p5, p6, p7, p8⟩ := id pa
  have nd := sc_worth_of.nd
  have hr4 : Room 4 _ := hr.mono (by decide)
  have pl := po.p
  rw [← vl] at pl
  have l4 := po.z4
  have pl' := pl.l
  refine ⟨_, pss_one (ps_ret (pe_call OP hr4 lk_worth_of_plus DP.m DP.F.kp DP.b .nil pass0 (pa_Call (pe_call OA hr lk_worth_of_pairs_at DPA.m DPA.F.kp DPA.b .nil pass0 (pa_Subscript (pe_ix ix_tup (pe_ix ix_tup (pv 0 rfl (Or.inl lk_worth_of_plan)) (pe_int) (fun _ _ => rfl)) (pe_int) (fun _ _ => rfl)) (pa_Name (pv 1 rfl (Or.inl lk_worth_of_values)) pa_nil))) (pa_Subscript (pe_ix ix_tup (pe_ix ix_tup (pv 0 rfl (Or.inl lk_worth_of_plan)) (pe_int) (fun _ _ => rfl)) (pe_int) (fun _ _ => rfl)) pa_nil)))), ?_⟩
  refine ⟨_, rfl, p, _, _, _, rfl, rfl, SqT.of p1, rfl, g, _, _, _, rfl, rfl, SqT.of p6, rfl, _, rfl, ?_⟩
  refine ⟨_, w0, ps, fs, vals, rfl, p7, pl, SqT.of hw, pf, fun x hx => (gv x hx).mono (by decide), fun r1 H1 s1 f1 g1 => ?_⟩
  refine ⟨_, rfl, p, _, _, _, rfl, rfl, SqT.of (s1 _ _ p1), rfl, g, _, _, _, rfl, rfl, SqT.of (s1 _ _ p6), rfl, ?_⟩
  refine ⟨_, _, _, _, _, _, rfl, f1, p8.same s1, g1, po.c, by omega, fun r2 H2 s2 f2 => ?_⟩
  exact k r2 H2 (s1.trans s2) f2 ((g1.plus po.c).mono (by omega))
theorem sc_lworth : FnScope ["_law_plan_here", "_law_values", "_law_top", "_law_bottom", "_law_number", "_law_part", "_law_one", "_law_other"] ["_law_plan_here", "_law_values"] (defScope s_lworth) := ⟨rfl, rfl, rfl, by decide +kernel, rfl, by decide +kernel, by decide +kernel⟩
theorem lk_lworth__law_plan_here : (defScope s_lworth).names.lookup ("_law_plan_here" : Str) = some .local := by decide +kernel
theorem lk_lworth__law_values : (defScope s_lworth).names.lookup ("_law_values" : Str) = some .local := by decide +kernel
theorem lk_lworth__law_top : (defScope s_lworth).names.lookup ("_law_top" : Str) = some .local := by decide +kernel
theorem lk_lworth__law_bottom : (defScope s_lworth).names.lookup ("_law_bottom" : Str) = some .local := by decide +kernel
theorem lk_lworth__law_number : (defScope s_lworth).names.lookup ("_law_number" : Str) = some .local := by decide +kernel
theorem lk_lworth__law_part : (defScope s_lworth).names.lookup ("_law_part" : Str) = some .local := by decide +kernel
theorem lk_lworth__law_one : (defScope s_lworth).names.lookup ("_law_one" : Str) = some .local := by decide +kernel
theorem lk_lworth__law_other : (defScope s_lworth).names.lookup ("_law_other" : Str) = some .local := by decide +kernel
theorem lk_lworth__law_lesser : (defScope s_lworth).names.lookup ("_law_lesser" : Str) = some .globalImplicit := by decide +kernel
theorem ok_lworth {fDL : Addr} {dDL : FuncData} (F : Fun K "_law_worth" "_law_worth" s_lworth f fd) (B : Blt mg) (DL : DefAt K mg "_law_lesser" s_lesser fDL dDL ["_law_top", "_law_bottom"]) : FnOk P w K mg base CX0 2 f fd ["_law_plan_here", "_law_values"] (spWof K) := by
  have OL : FnOk P w K mg base CX0 1 fDL dDL ["_law_top", "_law_bottom"] (spLes K) := ok_lesser DL.F B
  refine F.ok sc_lworth (fun vs H Q E h => ?_) (fun cdv A outer s H vs Q E hr h => ?_)
  · obtain ⟨_, _, _, _, _, _, _, rfl, _⟩ := h
    rfl
  obtain ⟨p, w0, zs, nr, ps, cc, vals, rfl, pa, po, ⟨fs, hw, pf⟩, vl, gv, k⟩ := h
  obtain ⟨u, r, g, us, rs, way, pv', cv, p1, p2, p3, p4, p5, p6, ⟨pp, vs1, rfl, hpp, pr1⟩, ⟨cp, rfl, hcp⟩⟩ := id pa
  have nd := sc_lworth.nd
  have pl := po.p
  rw [← vl] at pl
  have l4 := po.z4
  have pl' := pl.l
  have gv1 : ∀ x ∈ vals, Gd 101 x := fun x hx => (gv x hx).mono (by decide)
  have l1 : vs1.length = ps.length := Paired.length pr1
  refine ⟨_, pss_cons (ps_asg (pe_ix ix_tup (pe_ix ix_tup (pv 0 rfl (Or.inl lk_lworth__law_plan_here)) (pe_int) (fun _ _ => rfl)) (pe_int) (fun _ _ => rfl)) (pg_tup rfl (pgs_cons (pg_name (i := 2) nd rfl (Or.inl lk_lworth__law_top)) (pgs_cons (pg_name (i := 3) nd rfl (Or.inl lk_lworth__law_bottom)) (pgs_nil)))))
    (pss_cons (ps_for PassesOwn.never rfl (pi_tup (pe_ix ix_tup (pe_ix ix_tup (pv 0 rfl (Or.inl lk_lworth__law_plan_here)) (pe_int) (fun _ _ => rfl)) (pe_int) (fun _ _ => rfl))) (pg_tup rfl (pgs_cons (pg_name (i := 4) nd rfl (Or.inl lk_lworth__law_number)) (pgs_cons (pg_name (i := 5) nd rfl (Or.inl lk_lworth__law_part)) (pgs_nil)))) (pss_cons (ps_set (i := 6) nd rfl (Or.inl lk_lworth__law_one) (pe_op op_mulF (pe_ix ix_tup (pv 5 rfl (Or.inl lk_lworth__law_part)) (pe_int) (fun _ _ => rfl)) (pe_ix ix_tup (pe_ix ix_tup (pv 1 rfl (Or.inl lk_lworth__law_values)) (pv 4 rfl (Or.inl lk_lworth__law_number)) (fun _ _ => rfl)) (pe_int) (fun _ _ => rfl))))
    (pss_cons (ps_set (i := 7) nd rfl (Or.inl lk_lworth__law_other) (pe_op op_mulF (pe_ix ix_tup (pv 5 rfl (Or.inl lk_lworth__law_part)) (pe_int) (fun _ _ => rfl)) (pe_ix ix_tup (pe_ix ix_tup (pv 1 rfl (Or.inl lk_lworth__law_values)) (pv 4 rfl (Or.inl lk_lworth__law_number)) (fun _ _ => rfl)) (pe_int) (fun _ _ => rfl))))
    (pss_one (ps_par (i := 2) (j := 3) rfl nd rfl rfl (by decide) lk_lworth__law_top lk_lworth__law_bottom (pa_BinOp (pe_op op_add (pe_op op_mulF (pv 2 rfl (Or.inl lk_lworth__law_top)) (pv 7 rfl (Or.inl lk_lworth__law_other))) (pe_op op_mulF (pv 6 rfl (Or.inl lk_lworth__law_one)) (pv 3 rfl (Or.inl lk_lworth__law_bottom)))) (pa_BinOp (pe_op op_mulF (pv 3 rfl (Or.inl lk_lworth__law_bottom)) (pv 7 rfl (Or.inl lk_lworth__law_other))) pa_nil)) rfl)))))
    (pss_one (ps_ret (pe_call OL hr lk_lworth__law_lesser DL.m DL.F.kp DL.b .nil pass0 (pa_Name (pv 2 rfl (Or.inl lk_lworth__law_top)) (pa_Name (pv 3 rfl (Or.inl lk_lworth__law_bottom)) pa_nil)))))), ?_⟩
  refine ⟨_, rfl, p, _, _, _, rfl, rfl, SqT.of p1, rfl, g, _, _, _, rfl, rfl, SqT.of p6, rfl, cp, _, rfl, hcp, rfl, _, _, rfl, _, _, rfl, rfl, ?_⟩
  refine ⟨_, rfl, p, _, _, _, rfl, rfl, SqT.of p1, rfl, g, _, _, _, rfl, rfl, SqT.of p6, rfl, pp, rfl, ⟨_, SqT.of hpp⟩, ?_⟩
  refine for_tup (xs := vs1) (fun i σ H' => ∃ (n pt on ot : Option V), σ = [some (.ref p), some (.ref w0), some (.int (rwF cc (ps.take i) vals).1), some (.int (rwF cc (ps.take i) vals).2), n, pt, on, ot] ∧ H' = H ∧ Fb (40 + 203 * i) (rwF cc (ps.take i) vals))
    ⟨none, none, none, none, rfl, rfl, po.c.2⟩ (fun i σ H' _ h => ?_) (fun i x σ H' hx h => ?_) (fun σ H' h => ?_)
  · obtain ⟨_, _, _, _, _, rfl, _⟩ := h
    exact SqT.of hpp
  · obtain ⟨n, pt, on, ot, rfl, rfl, fb⟩ := h
    have hi : i < ps.length := by rw [← l1]; exact (List.getElem?_eq_some_iff.mp hx).1
    have hm := List.getElem?_eq_getElem hi
    have hmem : ps[i] ∈ ps := List.getElem_mem hi
    obtain ⟨a', fv, rfl, sq, ⟨fp, rfl, hf⟩⟩ := pair_get pr1 i _ _ hx hm
    obtain ⟨g1, _, n0, n1⟩ := pl.p _ hmem
    obtain ⟨xv, ex, ⟨xp, rfl, fx⟩, gx⟩ := val_at pf gv1 n0 n1
    have fb' := rw_fb gv1 g1 (by decide) n0 n1 fb
    refine ⟨a', _, rfl, sq, rfl, _, _, rfl, _, _, rfl, rfl, ?_⟩
    refine ⟨_, rfl, fp, _, _, _, rfl, rfl, hf, rfl, _, rfl, _, rfl, w0, _, _, _, rfl, rfl, SqT.of hw, ex, xp, _, _, _, rfl, rfl, fx, rfl, _, _, rfl, rfl, mf (by decide) g1.2.1 gx.2.1, ?_⟩
    refine ⟨_, rfl, fp, _, _, _, rfl, rfl, hf, rfl, _, rfl, _, rfl, w0, _, _, _, rfl, rfl, SqT.of hw, ex, xp, _, _, _, rfl, rfl, fx, rfl, _, _, rfl, rfl, mf (by decide) g1.2.2 gx.2.2, ?_⟩
    have bo := mul_lt g1.2.2 gx.2.2
    have bn := mul_lt g1.2.1 gx.2.1
    refine ⟨_, rfl, _, rfl, _, _, rfl, rfl, mf (by omega) fb.1 bo, _, rfl, _, rfl, _, _, rfl, rfl, mf (by omega) bn fb.2, _, _, rfl, rfl, _, rfl, _, rfl, _, _, rfl, rfl, mf (by omega) fb.2 bo, _, _, rfl, ?_⟩
    have et : rwF cc (ps.take (i + 1)) vals = rwS vals (rwF cc (ps.take i) vals) ps[i] := by rw [List.take_succ, hm, ← rw_snoc]; rfl
    rw [et]
    exact ⟨_, _, _, _, rfl, rfl, fb'.mono (by omega)⟩
  · obtain ⟨n, pt, on, ot, rfl, rfl, fb⟩ := h
    rw [l1, List.take_length] at fb ⊢
    obtain ⟨bp, ew⟩ := worth_eq (c := cc) gv (fun m hm => ⟨(pl.p m hm).1.1, (pl.p m hm).2.2⟩) po.c.1
    refine ⟨_, rfl, _, rfl, _, _, rfl, bp, lt_big fb.2 (by omega), lt_big fb.1 (by omega), fun r1 H1 s1 f1 => ?_⟩
    rw [ew] at f1
    refine k r1 H1 s1 f1 ?_
    have g0 := wrt_gd (n := 0) gv1 1 ps (0, 1) (fun m hm => ⟨(pl.p m hm).1, (pl.p m hm).2.2⟩) (gd_one (by decide))
    exact (g0.plus po.c).mono (by omega)
end
end Pw


set_option Elab.async false
set_option linter.all false
set_option maxRecDepth 100000
set_option maxHeartbeats 4000000
namespace Pw
open PySem L2
seal PE PT PW PA PS PSs PG PGs PI PIf PO PJ
def rowsOf (zs : List Str) (ps : Pq) (cc : Fq) : Out → List Str
  | .non => ["none"]
  | .best vals => (Str.ofString "best " ++ shT (wOf ps cc vals)) :: List.zipWith rowT zs vals
  | .end_ vals => "endless" :: List.zipWith rowT zs vals
theorem zw_len {zs : List Str} {vals : List Fq} (h : vals.length = zs.length) : (List.zipWith rowT zs vals).length = zs.length := by rw [List.length_zipWith, h, Nat.min_self]
theorem zw_take {zs : List Str} {vals : List Fq} {i : Nat} (h1 : i < zs.length) (h2 : i < vals.length) : (List.zipWith rowT zs vals).take (i + 1) = (List.zipWith rowT zs vals).take i ++ [rowT zs[i] vals[i]] := by
  have : (List.zipWith rowT zs vals)[i]? = some (rowT zs[i] vals[i]) := by rw [List.getElem?_zipWith, List.getElem?_eq_getElem h1, List.getElem?_eq_getElem h2]
  rw [List.take_succ, this]
  rfl
section
variable {P : Program} {w : World} {K : PySem.W.Frag} {mg : Str → Option Value} {base : Heap} {f : Addr} {fd : FuncData}
def spAR (K : PySem.W.Frag) : Sp := fun vs H Q _ => ∃ p o zs nr ps cc ou, vs = [.ref p, .ref o] ∧ PlanAt K H p zs nr ps cc ∧ POk zs nr ps cc ∧ OutAt K H o ou ∧ OOk zs.length ou ∧ ∀ r H', H r = none → Same H H' → H' r = some (.lst ((rowsOf zs ps cc ou).map V.str)) → Q (.ref r) H'
theorem sc_answer_rows : FnScope ["plan", "outcome", "kind", "values", "head"] ["plan", "outcome"] (defScope s_answer_rows) := ⟨rfl, rfl, rfl, by decide +kernel, rfl, by decide +kernel, by decide +kernel⟩
theorem lk_answer_rows_plan : (defScope s_answer_rows).names.lookup ("plan" : Str) = some .local := by decide +kernel
theorem lk_answer_rows_outcome : (defScope s_answer_rows).names.lookup ("outcome" : Str) = some .local := by decide +kernel
theorem lk_answer_rows_kind : (defScope s_answer_rows).names.lookup ("kind" : Str) = some .local := by decide +kernel
theorem lk_answer_rows_values : (defScope s_answer_rows).names.lookup ("values" : Str) = some .local := by decide +kernel
theorem lk_answer_rows_head : (defScope s_answer_rows).names.lookup ("head" : Str) = some .local := by decide +kernel
theorem lk_answer_rows_shown_fraction : (defScope s_answer_rows).names.lookup ("shown_fraction" : Str) = some .globalImplicit := by decide +kernel
theorem lk_answer_rows_worth_of : (defScope s_answer_rows).names.lookup ("worth_of" : Str) = some .globalImplicit := by decide +kernel
theorem lk_answer_rows_zip : (defScope s_answer_rows).names.lookup ("zip" : Str) = some .globalImplicit := by decide +kernel
theorem ok_answer_rows {ff fg CB aN fDP fDT fDW fDPA fDWo fDS fDVR : Addr} {df dg dDP dDT dDW dDPA dDWo dDS dDVR : FuncData} {dV : Value} {ds : List Value} (F : Fun K "answer_rows" "answer_rows" s_answer_rows f fd) (B : Blt mg) (C : Cst K mg aN) (D : DefD K mg "fraction" s_fraction dV ff df ["top", "bottom"] ds) (G : DefAt K mg "greatest_divisor" s_greatest_divisor fg dg ["one", "other"]) (X : BadF K mg CB) (DP : DefAt K mg "plus" s_plus fDP dDP ["one", "other"]) (DT : DefAt K mg "times" s_times fDT dDT ["one", "other"]) (DW : DefAt K mg "worth" s_worth fDW dDW ["one", "values"]) (DPA : DefAt K mg "pairs_at" s_pairs_at fDPA dDPA ["pairs", "values"]) (DWo : DefAt K mg "worth_of" s_worth_of fDWo dDWo ["plan", "values"]) (DS : DefAt K mg "shown_fraction" s_shown fDS dDS ["one"]) (DVR : DefAt K mg "value_row" s_value_row fDVR dDVR ["label", "value"]) : FnOk P w K mg base CX0 8 f fd ["plan", "outcome"] (spAR K) := by
  have OW : FnOk P w K mg base CX0 7 fDWo dDWo ["plan", "values"] (spWof K) := ok_worth_of DWo.F B C D G X DP DT DW DPA
  have OS : FnOk P w K mg base CX0 1 fDS dDS ["one"] (spShown K) := ok_shown DS.F
  have OV : FnOk P w K mg base CX0 2 fDVR dDVR ["label", "value"] (spVR K) := ok_value_row DVR.F B DS
  refine F.ok sc_answer_rows (fun vs H Q E h => ?_) (fun cdv A outer s H vs Q E hr h => ?_)
  · obtain ⟨_, _, _, _, _, _, _, rfl, _⟩ := h
    rfl
  obtain ⟨p, o, zs, nr, ps, cc, ou, rfl, pa, po, oa, oo, k⟩ := h
  obtain ⟨u, r, g, us, rs, way, pv', cv, p1, p2, p3, p4, p5, p6, p7, p8⟩ := id pa
  have nd := sc_answer_rows.nd
  have hr1 : Room 1 _ := hr.mono (by decide)
  have hr2 : Room 2 _ := hr.mono (by decide)
  have ul : us.length = zs.length := Paired.length p3
  have z4 := po.z4
  refine ⟨_, pss_cons (ps_set (i := 2) nd rfl (Or.inl lk_answer_rows_kind) (pe_ix ix_tup (pv 1 rfl (Or.inl lk_answer_rows_outcome)) (pe_int) (fun _ _ => rfl)))
    (pss_cons (ps_if (pt_cmpR op_eq (pv 2 rfl (Or.inl lk_answer_rows_kind)) (pe_str) (nomark _)) (pss_one (ps_ret (pe_lst (pa_Constant (pe_str) pa_nil)))) (pss_nil))
    (pss_cons (ps_set (i := 3) nd rfl (Or.inl lk_answer_rows_values) (pe_ix ix_tup (pv 1 rfl (Or.inl lk_answer_rows_outcome)) (pe_int) (fun _ _ => rfl)))
    (pss_cons (ps_set (i := 4) nd rfl (Or.inl lk_answer_rows_head) (pe_str))
    (pss_cons (ps_if (pt_cmpR op_eq (pv 2 rfl (Or.inl lk_answer_rows_kind)) (pe_str) (nomark _)) (pss_one (ps_set (i := 4) nd rfl (Or.inl lk_answer_rows_head) (pe_op op_add_str (pe_str) (pe_call OS hr1 lk_answer_rows_shown_fraction DS.m DS.F.kp DS.b .nil pass0 (pa_Call (pe_call OW hr lk_answer_rows_worth_of DWo.m DWo.F.kp DWo.b .nil pass0 (pa_Name (pv 0 rfl (Or.inl lk_answer_rows_plan)) (pa_Name (pv 3 rfl (Or.inl lk_answer_rows_values)) pa_nil))) pa_nil))))) (pss_nil))
    (pss_one (ps_ret (pe_op op_cat (pe_lst (pa_Name (pv 4 rfl (Or.inl lk_answer_rows_head)) pa_nil)) (pe_comp rfl (frees_of ["unknown", "value"] [] ["plan", "outcome", "kind", "values", "head"] (by decide +kernel)) (noFree rfl) (by decide +kernel) rfl (by decide +kernel) (fun y hy => PySem.mem_of_lookup hy) (pi_zip true true lk_answer_rows_zip B.zip (pa_Subscript (pe_ix ix_tup (pv 0 rfl (Or.inl lk_answer_rows_plan)) (pe_int) (fun _ _ => rfl)) (pa_Name (pv 3 rfl (Or.inl lk_answer_rows_values)) pa_nil))) (pgc2 (i := 0) (j := 1) rfl (show (["unknown", "value"] : List Str).Nodup by decide +kernel) rfl rfl (by decide +kernel) (by decide +kernel)) (fun cl C s H fp pins => pif_nil) (fun cl C s H fp pins => pe_call OV hr2 (c_gl (by decide +kernel)) DVR.m DVR.F.kp DVR.b .nil pass0 (pa_Subscript (pe_ix (ix_tupK (K := K) rfl) (pv 0 rfl (c_vloc (by decide +kernel))) (pe_int) (fun _ _ => rfl)) (pa_Name (pv 1 rfl (c_vloc (by decide +kernel))) pa_nil))))))))))), ?_⟩
  by_cases hno : ou = .non
  · subst hno
    obtain ⟨t, ho⟩ := oa
    refine ⟨_, rfl, o, _, _, _, rfl, rfl, SqT.of ho, rfl, _, rfl, rfl, _, rfl, ?_⟩
    refine iteY (by decide) ?_
    exact ⟨(by show 1 ≤ sizeLine; decide), fun p hp => k p _ hp (same_new hp _) upd_same⟩
  obtain ⟨kd, v, t, vals, ho, hv, vl, gv, kn, rows_eq⟩ : ∃ (kd : Str) (v : Addr) (t : V) (vals : List Fq), H o = some (.tup [.str kd, .ref v, t]) ∧ ValAt K H v vals ∧ vals.length = zs.length ∧ (∀ x ∈ vals, Gd 40 x) ∧ kd ≠ "none" ∧ rowsOf zs ps cc ou = (if kd = "best" then Str.ofString "best " ++ shT (wOf ps cc vals) else "endless") :: List.zipWith rowT zs vals := by
    cases ou with
    | non => exact absurd rfl hno
    | best vals => obtain ⟨v, t, a, b⟩ := oa; exact ⟨_, v, t, vals, a, b, oo.1, oo.2, by decide, rfl⟩
    | end_ vals => obtain ⟨v, t, a, b⟩ := oa; exact ⟨_, v, t, vals, a, b, oo.1, oo.2, by decide, rfl⟩
  refine ⟨_, rfl, o, _, _, _, rfl, rfl, SqT.of ho, rfl, _, rfl, rfl, _, rfl, ?_⟩
  refine iteN (decide_eq_false fun z => kn (V.str.inj z)) ?_
  refine ⟨_, rfl, o, _, _, _, rfl, rfl, SqT.of ho, rfl, ?_⟩
  dsimp only [tAsg, tC, gName, tSeq]
  refine ifS_jn (b := decide (V.str kd = V.str "best")) (fun σ' H1 => ∃ hd : Str, σ' = [some (.ref p), some (.ref o), some (.str kd), some (.ref v), some (.str hd)] ∧ Same H H1 ∧ hd.length ≤ 4000 ∧ rowsOf zs ps cc ou = hd :: List.zipWith rowT zs vals)
    (fun R hR => ⟨_, rfl, rfl, _, rfl, hR _ Same.refl'⟩) (fun hb H1 s1 Dn hDn => ?_) (fun hb H1 s1 Dn hDn => ?_) ?_
  · have hk : kd = "best" := V.str.inj (of_decide_eq_true hb)
    refine ⟨_, rfl, _, rfl, p, v, zs, nr, ps, cc, vals, rfl, pa.same s1, po, hv.same s1, vl, gv, fun r1 H2 s2 f2 g2 => ?_⟩
    have l1 := shT_len g2.2
    have l2 : (Str.ofString "best ").length = 5 := by decide
    refine ⟨r1, _, rfl, f2, g2, _, _, rfl, rfl, (by rw [sizeLine_eq]; omega), hDn _ _ ⟨_, rfl, s1.trans s2, ?_, ?_⟩⟩
    · show (Str.ofString "best " ++ shT (wOf ps cc vals)).length ≤ 4000
      rw [app_len]; omega
    · rw [rows_eq, if_pos hk]
  · have hk : kd ≠ "best" := fun z => of_decide_eq_false hb (congrArg V.str z)
    exact hDn _ _ ⟨_, rfl, s1, (by decide), by rw [rows_eq, if_neg hk]⟩
  rintro σ' H1 ⟨hd, rfl, s1, hl, er⟩
  obtain ⟨fs, hvf, pf⟩ := hv
  have fl : fs.length = vals.length := Paired.length pf
  refine ⟨_, rfl, ?_⟩
  refine ⟨(by show 1 ≤ sizeLine; decide), fun l1 n2 => ?_⟩
  generalize hH_ : upd _ l1 _ = H2
  obtain ⟨s2, e2⟩ := upd_new hH_ n2
  clear hH_
  have s12 := s1.trans s2
  refine ⟨_, rfl, p, _, _, _, rfl, rfl, SqT.of (s12 _ _ p1), rfl, _, rfl, u, v, rfl, ⟨us, SqT.of (s12 _ _ p2)⟩, ⟨fs, SqT.of (s12 _ _ hvf)⟩, fun D' hD' => ?_⟩
  refine comp_zip (K := K) (k1 := true) (k2 := true) (xs := us) (ys := fs) hD' (by rw [sizeLine_eq]; omega) (by omega) (SqT.of (s12 _ _ p2)) (SqT.of (s12 _ _ hvf)) (fun i ls σ G => (∃ a b : Option V, σ = [a, b]) ∧ ls = ((List.zipWith rowT zs vals).take i).map V.str)
    ⟨⟨none, none, rfl⟩, rfl⟩ (fun i x y ls σ H' t' hx hy hp eD sm ht Ry Rn r1 r2 => ?_) (fun ls σ H' hp eD sm => ?_)
  · obtain ⟨⟨a0, b0, rfl⟩, rfl⟩ := hp
    have hi : i < us.length := (List.getElem?_eq_some_iff.mp hx).1
    have hiz : i < zs.length := by omega
    have hiv : i < vals.length := by omega
    have st := same_new ht (.tup [x, y])
    have sA : Same H (upd H' t' (.tup [x, y])) := s12.trans (sm.trans (hid_le.trans st))
    obtain ⟨q', tt, rfl, hq⟩ := (pair_get p3 i _ _ hx (List.getElem?_eq_getElem hiz)).same sA
    have hf := (pair_get pf i _ _ hy (List.getElem?_eq_getElem hiv)).same sA
    refine ⟨t', _, rfl, SqT.of upd_same, rfl, _, _, rfl, _, _, rfl, rfl, ?_⟩
    refine ⟨_, rfl, q', _, _, _, rfl, rfl, SqT.of hq, atI_zero _ _, _, rfl, zs[i], _, vals[i], rfl, Nat.le_trans (po.zl _ (List.getElem_mem hiz)) (by decide), hf, (gv _ (List.getElem_mem hiv)).mono (by decide), ?_⟩
    refine r1 _ _ _ st ⟨⟨_, _, rfl⟩, ?_⟩
    rw [zw_take hiz hiv, List.map_append]
    rfl
  · obtain ⟨_, rfl⟩ := hp
    have sm' : Same H2 H' := sm.trans hid_le
    rw [ul, ← zw_len vl, List.take_length] at eD
    refine ⟨l1, D', _, _, rfl, rfl, sm' _ _ e2, eD, (by rw [List.length_map, zw_len vl, sizeLine_eq]; show 1 + _ ≤ _; omega), fun r' hr' => ?_⟩
    refine k r' _ ((s12.trans sm').free hr') ((s12.trans sm').trans (same_new hr' _)) ?_
    rw [upd_same, er]
    rfl
end
end Pw


set_option Elab.async false
set_option linter.all false
set_option maxRecDepth 100000
set_option maxHeartbeats 4000000
namespace Pw
open PySem L2
seal PE PT PW PA PS PSs PG PGs PI PIf PO PJ
theorem eqVs_str : ∀ zs : List Str, eqVs (zs.map V.str) (zs.map V.str) = true
  | [] => rfl
  | z :: zs => by
    show (z == z && eqVs (zs.map V.str) (zs.map V.str)) = true
    rw [eqVs_str zs, Bool.and_true]
    exact beq_self_eq_true z
theorem flat_str (zs : List Str) : (zs.map V.str).all flatV = true := by
  rw [List.all_eq_true]
  intro x hx
  obtain ⟨z, _, rfl⟩ := List.mem_map.mp hx
  rfl
theorem atI_m1 {α : Type} (x : α) (xs : List α) : ∃ v, atI (x :: xs) (-1) = some v :=
  ⟨_, by rw [← List.dropLast_concat_getLast (List.cons_ne_nil x xs)]; exact atI_last _ _⟩
theorem out_cases {K : PySem.W.Frag} {H : Hp} {o : Addr} {ou : Out} (zs : List Str) (ps : Pq) (cc : Fq) (oa : OutAt K H o ou) (oo : OOk zs.length ou) :
    ∃ (kd : Str) (rest : List V), H o = some (.tup (.str kd :: rest)) ∧ ((kd = "none" ∧ rowsOf zs ps cc ou = [kd]) ∨ (kd ≠ "none" ∧ ∃ (v : Addr) (t : V) (vals : List Fq), rest = [.ref v, t] ∧ ValAt K H v vals ∧ vals.length = zs.length ∧ (∀ x ∈ vals, Gd 40 x) ∧ rowsOf zs ps cc ou = (if kd = "best" then Str.ofString "best " ++ shT (wOf ps cc vals) else kd) :: List.zipWith rowT zs vals)) := by
  cases ou with
  | non => obtain ⟨t, a⟩ := oa; exact ⟨_, _, a, .inl ⟨rfl, rfl⟩⟩
  | best vals => obtain ⟨v, t, a, b⟩ := oa; exact ⟨_, _, a, .inr ⟨by decide, v, t, vals, rfl, b, oo.1, oo.2, rfl⟩⟩
  | end_ vals => obtain ⟨v, t, a, b⟩ := oa; exact ⟨_, _, a, .inr ⟨by decide, v, t, vals, rfl, b, oo.1, oo.2, rfl⟩⟩
section
variable {P : Program} {w : World} {K : PySem.W.Frag} {mg : Str → Option Value} {base : Heap} {f : Addr} {fd : FuncData}
def spLaw (K : PySem.W.Frag) : Sp := fun vs H Q _ => ∃ (a : Addr) (ns : List Int), vs = [.ref a] ∧ SqL K H a (ns.map V.int) ∧ ns.length ≤ 63 ∧ (∀ i ∈ ns, Few i) ∧ ∀ H', Q (.bl true) H'
theorem sc_law : FnScope ["_law_script", "_law_plan_here", "_law_outcome_here", "_law_due", "_law_unknown", "_law_one", "_law_held", "_law_turn", "_law_found"] ["_law_script"] (defScope s_law) := ⟨rfl, rfl, rfl, by decide +kernel, rfl, by decide +kernel, by decide +kernel⟩
theorem lk_law__law_script : (defScope s_law).names.lookup ("_law_script" : Str) = some .local := by decide +kernel
theorem lk_law__law_plan_here : (defScope s_law).names.lookup ("_law_plan_here" : Str) = some .local := by decide +kernel
theorem lk_law__law_outcome_here : (defScope s_law).names.lookup ("_law_outcome_here" : Str) = some .local := by decide +kernel
theorem lk_law__law_due : (defScope s_law).names.lookup ("_law_due" : Str) = some .cell := by decide +kernel
theorem lk_law__law_unknown : (defScope s_law).names.lookup ("_law_unknown" : Str) = some .local := by decide +kernel
theorem lk_law__law_one : (defScope s_law).names.lookup ("_law_one" : Str) = some .local := by decide +kernel
theorem lk_law__law_held : (defScope s_law).names.lookup ("_law_held" : Str) = some .local := by decide +kernel
theorem lk_law__law_turn : (defScope s_law).names.lookup ("_law_turn" : Str) = some .local := by decide +kernel
theorem lk_law__law_found : (defScope s_law).names.lookup ("_law_found" : Str) = some .local := by decide +kernel
theorem lk_law__law_number_text : (defScope s_law).names.lookup ("_law_number_text" : Str) = some .globalImplicit := by decide +kernel
theorem lk_law__law_outcome : (defScope s_law).names.lookup ("_law_outcome" : Str) = some .globalImplicit := by decide +kernel
theorem lk_law__law_plan : (defScope s_law).names.lookup ("_law_plan" : Str) = some .globalImplicit := by decide +kernel
theorem lk_law__law_worth : (defScope s_law).names.lookup ("_law_worth" : Str) = some .globalImplicit := by decide +kernel
theorem lk_law_all : (defScope s_law).names.lookup ("all" : Str) = some .globalImplicit := by decide +kernel
theorem lk_law_answer_rows : (defScope s_law).names.lookup ("answer_rows" : Str) = some .globalImplicit := by decide +kernel
theorem lk_law_isinstance : (defScope s_law).names.lookup ("isinstance" : Str) = some .globalImplicit := by decide +kernel
theorem lk_law_list : (defScope s_law).names.lookup ("list" : Str) = some .globalImplicit := by decide +kernel
theorem lk_law_range : (defScope s_law).names.lookup ("range" : Str) = some .globalImplicit := by decide +kernel
theorem lk_law_zip : (defScope s_law).names.lookup ("zip" : Str) = some .globalImplicit := by decide +kernel
theorem ok_law {ff fg CB aN fDP fDT fDW fDPA fDWo fDS fDVR fDF fDL fDM fDA fDB fDPr fDFs fDTr fDPl fDO fDLW fDNT fDAR : Addr} {df dg dDP dDT dDW dDPA dDWo dDS dDVR dDF dDL dDM dDA dDB dDPr dDFs dDTr dDPl dDO dDLW dDNT dDAR : FuncData} {dV : Value} {ds : List Value} (F : Fun K "law" "law" s_law f fd) (B : Blt mg) (C : Cst K mg aN) (D : DefD K mg "fraction" s_fraction dV ff df ["top", "bottom"] ds) (G : DefAt K mg "greatest_divisor" s_greatest_divisor fg dg ["one", "other"]) (X : BadF K mg CB) (DP : DefAt K mg "plus" s_plus fDP dDP ["one", "other"]) (DT : DefAt K mg "times" s_times fDT dDT ["one", "other"]) (DW : DefAt K mg "worth" s_worth fDW dDW ["one", "values"]) (DPA : DefAt K mg "pairs_at" s_pairs_at fDPA dDPA ["pairs", "values"]) (DWo : DefAt K mg "worth_of" s_worth_of fDWo dDWo ["plan", "values"]) (DS : DefAt K mg "shown_fraction" s_shown fDS dDS ["one"]) (DVR : DefAt K mg "value_row" s_value_row fDVR dDVR ["label", "value"]) (DF : DefAt K mg "_law_fraction" s_lfrac fDF dDF ["_law_cell"]) (DL : DefAt K mg "_law_lesser" s_lesser fDL dDL ["_law_top", "_law_bottom"]) (DM : DefAt K mg "_law_mixed" s_mixed fDM dDM ["_law_cell", "_law_k"]) (DA : DefAt K mg "_law_at" s_lat fDA dDA ["_law_script", "_law_k"]) (DB : DefAt K mg "_law_labels" s_labels fDB dDB ["_law_cell", "_law_many"]) (DPr : DefAt K mg "_law_pairs" s_lpairs fDPr dDPr ["_law_cell", "_law_many"]) (DFs : DefAt K mg "_law_fractions" s_fracs fDFs dDFs ["_law_cell", "_law_many"]) (DTr : DefAt K mg "_law_tree" s_tree fDTr dDTr ["_law_cell", "_law_deep", "_law_plan_here"]) (DPl : DefAt K mg "_law_plan" s_plan fDPl dDPl ["_law_script"]) (DO : DefAt K mg "_law_outcome" s_outcome fDO dDO ["_law_script", "_law_plan_here"]) (DLW : DefAt K mg "_law_worth" s_lworth fDLW dDLW ["_law_plan_here", "_law_values"]) (DNT : DefAt K mg "_law_number_text" s_ntext fDNT dDNT ["_law_one"]) (DAR : DefAt K mg "answer_rows" s_answer_rows fDAR dDAR ["plan", "outcome"]) : FnOk P w K mg base CX0 9 f fd ["_law_script"] (spLaw K) := by
  have OPl : FnOk P w K mg base CX0 4 fDPl dDPl ["_law_script"] (spPlan K) := ok_plan DPl.F B DF DL DM DA DB DPr
  have OO : FnOk P w K mg base CX0 8 fDO dDO ["_law_script", "_law_plan_here"] (spOut K) := ok_outcome DO.F B DF DL DM DFs DTr DA
  have ON : FnOk P w K mg base CX0 1 fDNT dDNT ["_law_one"] (spNT K) := ok_ntext DNT.F B
  have OLW : FnOk P w K mg base CX0 2 fDLW dDLW ["_law_plan_here", "_law_values"] (spWof K) := ok_lworth DLW.F B DL
  have OAR : FnOk P w K mg base CX0 8 fDAR dDAR ["plan", "outcome"] (spAR K) := ok_answer_rows DAR.F B C D G X DP DT DW DPA DWo DS DVR
  refine F.ok sc_law (fun vs H Q E h => ?_) (fun cdv A outer s H vs Q E hr h => ?_)
  · obtain ⟨_, _, rfl, _⟩ := h
    rfl
  obtain ⟨a, ns, rfl, hS, h63, few, k⟩ := h
  have nd := sc_law.nd
  have hr4 : Room 4 _ := hr.mono (by decide)
  have hr2 : Room 2 _ := hr.mono (by decide)
  have hr1 : Room 1 _ := hr.mono (by decide)
  have hu0 := Nat.lt_of_le_of_lt (Nat.le_succ _) (hu_of hr)
  refine ⟨_, pss_cons (ps_set (i := 1) nd rfl (Or.inl lk_law__law_plan_here) (pe_call OPl hr4 lk_law__law_plan DPl.m DPl.F.kp DPl.b .nil pass0 (pa_Name (pv 0 rfl (Or.inl lk_law__law_script)) pa_nil)))
    (pss_cons (ps_set (i := 2) nd rfl (Or.inl lk_law__law_outcome_here) (pe_call OO hr lk_law__law_outcome DO.m DO.F.kp DO.b .nil pass0 (pa_Name (pv 0 rfl (Or.inl lk_law__law_script)) (pa_Name (pv 1 rfl (Or.inl lk_law__law_plan_here)) pa_nil))))
    (pss_cons (ps_set (i := 3) nd rfl (Or.inr lk_law__law_due) (pe_lst (pa_Subscript (pe_ix ix_tup (pv 2 rfl (Or.inl lk_law__law_outcome_here)) (pe_int) (fun _ _ => rfl)) pa_nil)))
    (pss_cons (ps_if (pt_cmpR op_eq (pe_ix ix_tup (pv 2 rfl (Or.inl lk_law__law_outcome_here)) (pe_int) (fun _ _ => rfl)) (pe_str) (nomark _)) (pss_one (ps_set (i := 3) nd rfl (Or.inr lk_law__law_due) (pe_lst (pa_BinOp (pe_op op_add_str (pe_str) (pe_call ON hr1 lk_law__law_number_text DNT.m DNT.F.kp DNT.b .nil pass0 (pa_Call (pe_call OLW hr2 lk_law__law_worth DLW.m DLW.F.kp DLW.b .nil pass0 (pa_Name (pv 1 rfl (Or.inl lk_law__law_plan_here)) (pa_Subscript (pe_ix ix_tup (pv 2 rfl (Or.inl lk_law__law_outcome_here)) (pe_int) (fun _ _ => rfl)) pa_nil))) pa_nil))) pa_nil)))) (pss_nil))
    (pss_cons (ps_if (pt_cmpR op_ne (pe_ix ix_tup (pv 2 rfl (Or.inl lk_law__law_outcome_here)) (pe_int) (fun _ _ => rfl)) (pe_str) (nomark _)) (pss_one (ps_for PassesOwn.never rfl (pi_zip true true lk_law_zip B.zip (pa_Subscript (pe_ix ix_tup (pv 1 rfl (Or.inl lk_law__law_plan_here)) (pe_int) (fun _ _ => rfl)) (pa_Subscript (pe_ix ix_tup (pv 2 rfl (Or.inl lk_law__law_outcome_here)) (pe_int) (fun _ _ => rfl)) pa_nil))) (pg_tup rfl (pgs_cons (pg_name (i := 4) nd rfl (Or.inl lk_law__law_unknown)) (pgs_cons (pg_name (i := 5) nd rfl (Or.inl lk_law__law_one)) (pgs_nil)))) (pss_one (ps_expr (pe_bm PySem.F.plainAttrs_list PySem.F.slot_list_append PySem.F.type_list_append mt_append (pv 3 rfl (Or.inr (Or.inl lk_law__law_due))) (pa_BinOp (pe_op op_add_str (pe_op op_add_str (pe_ix ix_tup (pv 4 rfl (Or.inl lk_law__law_unknown)) (pe_int) (fun _ _ => rfl)) (pe_str)) (pe_call ON hr1 lk_law__law_number_text DNT.m DNT.F.kp DNT.b .nil pass0 (pa_Name (pv 5 rfl (Or.inl lk_law__law_one)) pa_nil))) pa_nil)))))) (pss_nil))
    (pss_cons (ps_set (i := 6) nd rfl (Or.inl lk_law__law_held) (pe_lst pa_nil))
    (pss_cons (ps_for PassesOwn.never rfl (pi_range1 lk_law_range B.range (pa_Constant (pe_int) pa_nil)) (pg_name (i := 7) nd rfl (Or.inl lk_law__law_turn)) (pss_cons (ps_set (i := 8) nd rfl (Or.inl lk_law__law_found) (pe_call OAR hr lk_law_answer_rows DAR.m DAR.F.kp DAR.b .nil pass0 (pa_Name (pv 1 rfl (Or.inl lk_law__law_plan_here)) (pa_Name (pv 2 rfl (Or.inl lk_law__law_outcome_here)) pa_nil))))
    (pss_cons (ps_if (PW.pt (pw_or (pt_not (pt_val (pe_callB (call_isi (K := K) rfl) lk_law_isinstance B.isinstance bt_isinstance (pa_Name (pv 8 rfl (Or.inl lk_law__law_found)) (pa_Name (pe_bltn (v := .ty "list") lk_law_list B.list bt_list rfl) pa_nil))))) (pw_or (pt_cmpR (op_neLF (K := K) rfl hu0) (pv 8 rfl (Or.inl lk_law__law_found)) (pv 3 rfl (Or.inr (Or.inl lk_law__law_due))) (nomark _)) (pw_or1 (pt_not (pt_val (pe_callB (call_all rfl) lk_law_all B.all bt_all (pa_ListComp (pe_comp rfl (frees_of ["_law_row"] [] ["_law_script", "_law_plan_here", "_law_outcome_here", "_law_due", "_law_unknown", "_law_one", "_law_held", "_law_turn", "_law_found"] (by decide +kernel)) (noFree rfl) (by decide +kernel) rfl (by decide +kernel) (fun y hy => PySem.mem_of_lookup hy) (pi_list (pv 8 rfl (Or.inl lk_law__law_found))) (fun cl C s H fp pins => pg_name (i := 0) (show (["_law_row"] : List Str).Nodup by decide +kernel) rfl (Or.inl (c_loc (by decide +kernel))) (.inr (c_loc (by decide +kernel)))) (fun cl C s H fp pins => pif_nil) (fun cl C s H fp pins => pe_callB (call_isi (K := K) rfl) (c_gl (by decide +kernel)) B.isinstance bt_isinstance (pa_Name (pv 0 rfl (c_vloc (by decide +kernel))) (pa_Name (pe_bltn (v := .ty "str") (c_gl (by decide +kernel)) B.str bt_str rfl) pa_nil)))) pa_nil)))))))) (pss_one (ps_ret (pe_bl))) (pss_nil))
    (pss_cons (ps_expr (pe_bm PySem.F.plainAttrs_list PySem.F.slot_list_append PySem.F.type_list_append mt_append (pv 8 rfl (Or.inl lk_law__law_found)) (pa_Constant (pe_str) pa_nil)))
    (pss_one (ps_expr (pe_bm PySem.F.plainAttrs_list PySem.F.slot_list_append PySem.F.type_list_append mt_append (pv 6 rfl (Or.inl lk_law__law_held)) (pa_Name (pv 8 rfl (Or.inl lk_law__law_found)) pa_nil))))))))
    (pss_one (ps_ret (pe_and (pe_cmpR (op_eqLF (K := K) rfl hu0) (pe_comp rfl (frees_of ["_law_row"] [("_law_due", 3)] ["_law_script", "_law_plan_here", "_law_outcome_here", "_law_due", "_law_unknown", "_law_one", "_law_held", "_law_turn", "_law_found"] (by decide +kernel)) (visC s_law (by decide +kernel)) (by decide +kernel) rfl (by decide +kernel) (fun y hy => PySem.mem_of_lookup hy) (pi_list (pv 6 rfl (Or.inl lk_law__law_held))) (fun cl C s H fp pins => pg_name (i := 0) (show (["_law_row", "_law_due"] : List Str).Nodup by decide +kernel) rfl (Or.inl (c_loc (by decide +kernel))) (.inr (c_loc (by decide +kernel)))) (fun cl C s H fp pins => pif_one (pt_cmpR (op_neLF (K := K) rfl hu0) (pv 0 rfl (c_vloc (by decide +kernel))) (pe_op op_cat (pv 1 rfl (c_free (by decide +kernel))) (pe_lst (pa_Constant (pe_str) pa_nil))) (nomark _))) (fun cl C s H fp pins => pv 0 rfl (c_vloc (by decide +kernel)))) (pe_lst pa_nil) (nomark _)) (pe_one (pe_cmpR (op_eqLF (K := K) rfl hu0) (pe_call OAR hr lk_law_answer_rows DAR.m DAR.F.kp DAR.b .nil pass0 (pa_Name (pv 1 rfl (Or.inl lk_law__law_plan_here)) (pa_Tuple (pe_tup (pa_Constant (pe_str) (pa_Subscript (pe_ix ix_tup (pv 2 rfl (Or.inl lk_law__law_outcome_here)) (pe_un un_neg (pe_int)) (fun _ _ => rfl)) pa_nil))) pa_nil))) (pe_lst (pa_Constant (pe_str) pa_nil)) (nomark _)))))))))))), ?_⟩
  refine ⟨_, rfl, a, ns, rfl, hS, few, fun p zs nr ps cc H1 s1 pa1 po => ?_⟩
  refine ⟨_, rfl, _, rfl, a, ns, p, zs, nr, ps, cc, rfl, s1.seq hS, few, pa1, po, fun o ou H2 s2 oa oo => ?_⟩
  have pa := pa1.same s2
  obtain ⟨u, r, g, us, rs, way, pv', cv, p1, p2, p3, p4, p5, p6, p7, p8⟩ := id pa
  obtain ⟨kd, rest, ho, cs⟩ := out_cases zs ps cc oa oo
  have ul : us.length = zs.length := Paired.length p3
  have z4 := po.z4
  refine ⟨_, rfl, o, _, _, _, rfl, rfl, SqT.of ho, atI_zero _ _, ?_⟩
  refine ⟨(by show 1 ≤ sizeLine; decide), fun dp n3 => ?_⟩
  generalize hH_ : upd _ dp _ = H3
  obtain ⟨s3, e3⟩ := upd_new hH_ n3
  clear hH_
  dsimp only [gName, tSeq]
  refine ifS_jn (b := decide (V.str kd = V.str "best")) (fun σ' H' => ∃ (dp : Addr) (hd : Str), σ' = [some (.ref a), some (.ref p), some (.ref o), some (.ref dp), none, none, none, none, none] ∧ Same H2 H' ∧ H2 dp = none ∧ H' dp = some (.lst [.str hd]) ∧ (∀ vals, kd = "best" → rowsOf zs ps cc ou = (Str.ofString "best " ++ shT (wOf ps cc vals)) :: List.zipWith rowT zs vals → hd = Str.ofString "best " ++ shT (wOf ps cc vals)) ∧ (kd ≠ "best" → hd = kd))
    (fun R hR => ⟨_, rfl, o, _, _, _, rfl, rfl, SqT.of (s3 _ _ ho), atI_zero _ _, rfl, _, rfl, hR _ Same.refl'⟩) (fun hb H4 s4 Dn hDn => ?_) (fun hb H4 s4 Dn hDn => ?_) ?_
  · have hk : kd = "best" := V.str.inj (of_decide_eq_true hb)
    rcases cs with ⟨e, _⟩ | ⟨_, v, t, vals, rfl, hv, vl, gv, re⟩
    · rw [e] at hk; exact absurd hk (by decide)
    have s34 := s3.trans s4
    refine ⟨_, rfl, _, rfl, o, _, _, _, rfl, rfl, SqT.of (s34 _ _ ho), rfl, p, v, zs, nr, ps, cc, vals, rfl, pa.same s34, po, hv.same s34, vl, gv, fun r1 H5 s5 f5 g5 => ?_⟩
    have l1 := shT_len g5.2
    have l2 : (Str.ofString "best ").length = 5 := by decide
    refine ⟨r1, _, rfl, f5, g5, fun H6 s6 => ⟨_, _, rfl, rfl, (by rw [sizeLine_eq]; omega), ?_⟩⟩
    have s36 := s34.trans (s5.trans s6)
    refine ⟨(by show 1 ≤ sizeLine; decide), fun dq n7 => ?_⟩
    generalize hH_ : upd _ dq _ = H7
    obtain ⟨s7, e7⟩ := upd_new hH_ n7
    clear hH_
    refine hDn _ _ ⟨dq, _, rfl, s36.trans s7, s36.free n7, e7, fun vals' _ e' => ?_, fun z => absurd hk z⟩
    rw [re, if_pos hk] at e'
    exact (List.cons.inj e').1
  · have hk : kd ≠ "best" := fun z => of_decide_eq_false hb (congrArg V.str z)
    exact hDn _ _ ⟨dp, kd, rfl, s3.trans s4, n3, s4 _ _ e3, fun _ z => absurd z hk, fun _ => rfl⟩
  rintro σ' H4 ⟨dp, hd, rfl, s4, n4, e4, hb1, hb2⟩
  clear e3 n3 s3
  dsimp only [tSeq]
  refine ifS_jn (b := !decide (V.str kd = V.str "none")) (fun σ' H' => ∃ (x y : Option V), σ' = [some (.ref a), some (.ref p), some (.ref o), some (.ref dp), x, y, none, none, none] ∧ Same H2 H' ∧ H' dp = some (.lst ((rowsOf zs ps cc ou).map V.str)))
    (fun R hR => ⟨_, rfl, o, _, _, _, rfl, rfl, SqT.of (s4 _ _ ho), atI_zero _ _, rfl, _, rfl, hR _ Same.refl'⟩) (fun hb H5 s5 Dn hDn => ?_) (fun hb H5 s5 Dn hDn => ?_) ?_
  · rcases cs with ⟨e, _⟩ | ⟨_, v, t, vals, rfl, hv, vl, gv, re⟩
    · rw [e] at hb; exact absurd hb (by decide)
    have hhd : rowsOf zs ps cc ou = hd :: List.zipWith rowT zs vals := by
      by_cases z : kd = "best"
      · rw [if_pos z] at re
        rw [re, hb1 vals z re]
      · rw [if_neg z] at re
        rw [re, hb2 z]
    have s45 := s4.trans s5
    obtain ⟨fs, hvf, pf⟩ := hv
    have fl : fs.length = vals.length := Paired.length pf
    refine ⟨_, rfl, p, _, _, _, rfl, rfl, SqT.of (s45 _ _ p1), rfl, _, rfl, o, _, _, _, rfl, rfl, SqT.of (s45 _ _ ho), rfl, u, v, rfl, ⟨us, SqT.of (s45 _ _ p2)⟩, ⟨fs, SqT.of (s45 _ _ hvf)⟩, ?_⟩
    refine for_zip (K := K) (k1 := true) (k2 := true) (xs := us) (ys := fs) (fun i σ H' => ∃ (x y : Option V), σ = [some (.ref a), some (.ref p), some (.ref o), some (.ref dp), x, y, none, none, none] ∧ Same H2 (hid dp H') ∧ H' dp = some (.lst ((hd :: (List.zipWith rowT zs vals).take i).map V.str))) (by omega)
      ⟨none, none, rfl, (fun b o e => by rw [hid_ne (ne_of_none e n4)]; exact s45 b o e), s5 _ _ e4⟩ (fun i σ H' _ h => ?_) (fun i x y σ H' hx hy h t' ht => ?_) (fun σ H' h => ?_)
    · obtain ⟨_, _, _, sm, _⟩ := h
      have sm' := sm.trans hid_le
      exact ⟨SqT.of (sm' _ _ p2), SqT.of (sm' _ _ hvf)⟩
    · obtain ⟨x0, y0, rfl, sm, ed⟩ := h
      have hi : i < us.length := (List.getElem?_eq_some_iff.mp hx).1
      have hiz : i < zs.length := by omega
      have hiv : i < vals.length := by omega
      have st := same_new ht (.tup [x, y])
      have sA : Same H2 (upd H' t' (.tup [x, y])) := sm.trans (hid_le.trans st)
      have ed1 := st _ _ ed
      obtain ⟨q', tt, rfl, hq⟩ := (pair_get p3 i _ _ hx (List.getElem?_eq_getElem hiz)).same sA
      have hf := (pair_get pf i _ _ hy (List.getElem?_eq_getElem hiv)).same sA
      have zl := po.zl _ (List.getElem_mem hiz)
      have ga := (gv _ (List.getElem_mem hiv)).mono (show 40 ≤ 1500 by decide)
      have l1 := shT_len ga.2
      have l2 : (Str.ofString " = ").length = 3 := by decide
      refine ⟨t', _, rfl, SqT.of upd_same, rfl, _, _, rfl, _, _, rfl, rfl, ?_⟩
      refine ⟨_, rfl, .inl ⟨rfl, _, SqL.of ed1⟩, _, rfl, q', _, _, _, rfl, rfl, SqT.of hq, atI_zero _ _, _, _, rfl, rfl, (by rw [sizeLine_eq]; omega), _, rfl, _, vals[i], rfl, hf, ga, fun H6 s6 => ⟨_, _, rfl, rfl, (by rw [app_len, sizeLine_eq]; omega), ?_⟩⟩
      have ed6 := s6 _ _ ed1
      refine ⟨dp, _, _, rfl, rfl, ed6, (by rw [List.length_map, List.length_cons, List.length_take, zw_len vl, sizeLine_eq]; omega), ⟨_, _, rfl, ?_, ?_⟩⟩
      · rw [hid_upd]; exact sm.trans (hid_same (st.trans s6))
      · rw [upd_same, zw_take hiz hiv, List.map_cons, List.map_cons, List.map_append, List.cons_append]
        rfl
    · obtain ⟨x0, y0, rfl, sm, ed⟩ := h
      rw [ul, ← zw_len vl, List.take_length, ← hhd] at ed
      exact hDn _ _ ⟨_, _, rfl, sm.trans hid_le, ed⟩
  · have hk : kd = "none" := by
      have : decide (V.str kd = V.str "none") = true := by cases z : decide (V.str kd = V.str "none") with | true => rfl | false => rw [z] at hb; cases hb
      exact V.str.inj (of_decide_eq_true this)
    rcases cs with ⟨e, re⟩ | ⟨ne, _⟩
    · refine hDn _ _ ⟨none, none, rfl, s4.trans s5, ?_⟩
      rw [re, ← hb2 (by rw [hk]; decide)]
      exact s5 _ _ e4
    · exact absurd hk ne
  rintro σ' H5 ⟨x5, y5, rfl, s5, e5⟩
  clear e4 s4
  have rl : (rowsOf zs ps cc ou).length ≤ 10 := by
    rcases cs with ⟨_, re⟩ | ⟨_, v, t, vals, _, _, vl, _, re⟩
    · rw [re]; show 1 ≤ 10; decide
    · rw [re, List.length_cons, zw_len vl]; omega
  obtain ⟨rows, er⟩ : ∃ rows, rowsOf zs ps cc ou = rows := ⟨_, rfl⟩
  rw [er] at e5 rl
  have em : rows.map V.str ++ [V.str "more"] = (rows ++ [Str.ofString "more"]).map V.str := by rw [List.map_append]; rfl
  refine ⟨(by show 0 ≤ sizeLine; decide), fun hp n6 => ?_⟩
  generalize hH_ : upd _ hp _ = H6
  obtain ⟨s6, e6⟩ := upd_new hH_ n6
  clear hH_
  refine ⟨2, rfl, by decide, by decide, ?_⟩
  refine for_range (fun i σ H' => ∃ (tn fo : Option V) (hs : List Addr), σ = [some (.ref a), some (.ref p), some (.ref o), some (.ref dp), x5, y5, some (.ref hp), tn, fo] ∧ Same H5 (hid hp H') ∧ H' hp = some (.lst (hs.map V.ref)) ∧ (∀ r ∈ hs, hid hp H' r = some (.lst ((rows ++ [Str.ofString "more"]).map V.str))) ∧ hs.length = i)
    ⟨none, none, [], rfl, (fun b o e => by rw [hid_ne (ne_of_none e n6)]; exact s6 b o e), e6, by simp, rfl⟩ (fun i σ H' hi h => ?_) (fun σ H' h => ?_)
  · obtain ⟨tn, fo, hs, rfl, sm, eh, hall, hl⟩ := h
    have sA : Same H5 H' := sm.trans hid_le
    have sB : Same H2 H' := s5.trans sA
    refine ⟨_, rfl, _, rfl, p, o, zs, nr, ps, cc, ou, rfl, pa.same sB, po, oa.same sB, oo, fun r7 H7 n7 s7 e7 => ?_⟩
    rw [er] at e7
    dsimp only [gName, tSeq]
    refine ifS_by (b := (false || (false || false))) (Tells.or (fun R hR => ?_) fun _ H8 s8 => Tells.or (fun R hR => ?_) fun _ H9 s9 R hR => ?_) (fun z => absurd z (by decide)) (fun _ H8 s8 => ?_)
    · exact ⟨_, rfl, .ref r7, .ty "list", .type "list", true, rfl, rfl, .of (.lst e7), rfl, true, rfl, hR _ Same.refl'⟩
    · refine ⟨_, rfl, _, rfl, r7, dp, _, _, rfl, rfl, SqL.of (s8 _ _ e7), SqL.of ((sA.trans (s7.trans s8)) _ _ e5), flat_str rows, flat_str rows, _, rfl, ?_⟩
      show R (!eqVs (rows.map V.str) (rows.map V.str)) _
      rw [eqVs_str]
      exact hR _ Same.refl'
    · have e9 := (s8.trans s9) _ _ e7
      refine ⟨_, rfl, r7, rfl, ⟨_, SqL.of e9⟩, fun D' hD' => ?_⟩
      refine comp_same (J := Itl K r7) (xs := rows.map V.str) hD' (by rw [List.length_map, sizeLine_eq]; omega) (goL (SqL.of e9)) (stL (SqL.of e9)) (yL (SqL.of e9)) (fun i ys σ G => (∃ k : Option V, σ = [k]) ∧ ys = (List.replicate i true).map V.bl) ⟨⟨none, rfl⟩, rfl⟩ (fun i x ys σ H'' hx hp eD sm Ry Rn r1 r2 => ?_) (fun ys σ H'' hp eD sm => ?_)
      · obtain ⟨⟨k0, rfl⟩, rfl⟩ := hp
        rw [List.getElem?_map] at hx
        obtain ⟨z, _, rfl⟩ := Option.map_eq_some_iff.mp hx
        exact ⟨_, rfl, .str z, .ty "str", .type "str", true, rfl, rfl, .of (.str z), rfl, r1 _ _ H'' Same.refl' ⟨⟨_, rfl⟩, by rw [List.replicate_succ', List.map_append]; rfl⟩⟩
      · obtain ⟨_, rfl⟩ := hp
        refine ⟨D', List.replicate (rows.map V.str).length true, rfl, SqL.of eD, _, rfl, ?_⟩
        have : (List.replicate (rows.map V.str).length true).all id = true := by
          rw [List.all_eq_true]
          intro x hx
          exact (List.eq_of_mem_replicate hx)
        rw [this]
        exact hR _ (sm.trans hid_le)
    have e8 := s8 _ _ e7
    have s78 := s7.trans s8
    refine ⟨_, rfl, .inl ⟨rfl, _, SqL.of e8⟩, ⟨r7, _, _, rfl, rfl, e8, (by rw [List.length_map, sizeLine_eq]; omega), ?_⟩⟩
    have nh : hp ≠ r7 := fun z => by rw [z, n7] at eh; cases eh
    have eh9 : upd H8 r7 (.lst (rows.map V.str ++ [.str "more"])) hp = some (.lst (hs.map V.ref)) := by rw [upd_ne nh]; exact s78 _ _ eh
    refine ⟨_, rfl, .inl ⟨rfl, _, SqL.of eh9⟩, _, rfl, ⟨hp, _, _, rfl, rfl, eh9, (by rw [List.length_map, hl, sizeLine_eq]; omega), ?_⟩⟩
    have keep : ∀ b o, hid hp H' b = some o → hid hp (upd (upd H8 r7 (.lst (rows.map V.str ++ [.str "more"]))) hp (.lst (hs.map V.ref ++ [.ref r7]))) b = some o := fun b o e => by
      have nb : b ≠ hp := fun z => by rw [z, hid_at] at e; cases e
      rw [hid_ne nb] at e ⊢
      rw [upd_ne nb, upd_ne (ne_of_none e n7)]
      exact s78 _ _ e
    refine ⟨_, _, hs ++ [r7], rfl, fun b o e => keep b o (sm b o e), by rw [upd_same, List.map_append]; rfl, fun x hx => ?_, by rw [List.length_append, hl]; rfl⟩
    rcases List.mem_append.mp hx with h | h
    · exact keep _ _ (hall x h)
    · rw [List.mem_singleton.mp h, hid_ne (Ne.symm nh), upd_ne (Ne.symm nh), upd_same, em]
  obtain ⟨tn, fo, hs, rfl, sm, eh, hall, hl⟩ := h
  have sA : Same H5 H' := sm.trans hid_le
  have sB : Same H2 H' := s5.trans sA
  refine ⟨_, rfl, hp, rfl, ⟨_, SqL.of eh⟩, fun D' hD' => ?_⟩
  refine comp_same (J := Itl K hp) (xs := hs.map V.ref) hD' (by rw [List.length_map, sizeLine_eq]; omega) (goL (SqL.of eh)) (stL (SqL.of eh)) (yL (SqL.of eh)) (fun i ys σ G => (∃ k : Option V, σ = [k, some (.ref dp)]) ∧ ys = []) ⟨⟨none, rfl⟩, rfl⟩ (fun i x ys σ H'' hx hp' eD sm' Ry Rn r1 r2 => ?_) (fun ys σ H'' hp' eD sm' => ?_)
  · obtain ⟨⟨k0, rfl⟩, rfl⟩ := hp'
    rw [List.getElem?_map] at hx
    obtain ⟨r, hr', rfl⟩ := Option.map_eq_some_iff.mp hx
    have er' := (sm'.trans hid_le) _ _ (hid_le _ _ (hall r (List.mem_of_getElem? hr')))
    have ed' := (sA.trans (sm'.trans hid_le)) _ _ e5
    refine ⟨_, rfl, _, rfl, ?_⟩
    refine ⟨(by show 1 ≤ sizeLine; decide), fun m hz_m => ?_⟩
    generalize hH_ : upd _ m _ = H8
    obtain ⟨s8, e8⟩ := upd_new hH_ hz_m
    clear hH_
    refine ⟨dp, m, _, _, rfl, rfl, s8 _ _ ed', e8, (by rw [List.length_map, sizeLine_eq]; show _ + 1 ≤ _; omega), fun c hc => ?_⟩
    have sc' := same_new hc (.lst (rows.map V.str ++ [.str "more"]))
    refine ⟨r, c, (rows ++ [Str.ofString "more"]).map V.str, (rows ++ [Str.ofString "more"]).map V.str, rfl, rfl, SqL.of (sc' _ _ (s8 _ _ er')), SqL.of (by rw [← em]; exact upd_same), flat_str _, flat_str _, _, rfl, ?_⟩
    refine iteN (by show (!eqVs _ _) = false; rw [eqVs_str]; rfl) ?_
    exact r2 _ _ (s8.trans sc') ⟨⟨_, rfl⟩, rfl⟩
  obtain ⟨_, rfl⟩ := hp'
  have sC : Same H2 H'' := sB.trans (sm'.trans hid_le)
  refine ⟨(by show 0 ≤ sizeLine; decide), fun l1 hz_l1 => ?_⟩
  generalize hH_ : upd _ l1 _ = H8
  obtain ⟨s8, e8⟩ := upd_new hH_ hz_l1
  clear hH_
  refine ⟨D', l1, [], [], rfl, rfl, SqL.of (s8 _ _ eD), SqL.of e8, rfl, rfl, true, rfl, iteT ?_⟩
  have sD := sC.trans s8
  obtain ⟨lv, elv⟩ := atI_m1 (V.str kd) rest
  refine ⟨_, rfl, _, rfl, _, rfl, o, _, _, _, rfl, rfl, SqT.of (sD _ _ ho), elv, ?_⟩
  refine ⟨(by show 2 ≤ sizeLine; decide), fun t hz_t => ?_⟩
  generalize hH_ : upd _ t _ = H9
  obtain ⟨s9, e9⟩ := upd_new hH_ hz_t
  clear hH_
  refine ⟨p, t, zs, nr, ps, cc, .non, rfl, pa.same (sD.trans s9), po, ⟨_, e9⟩, trivial, fun r10 H10 n10 s10 e10 => ?_⟩
  refine ⟨(by show 1 ≤ sizeLine; decide), fun l2 hz_l2 => ?_⟩
  generalize hH_ : upd _ l2 _ = H11
  obtain ⟨s11, e11⟩ := upd_new hH_ hz_l2
  clear hH_
  exact ⟨r10, l2, _, _, rfl, rfl, SqL.of (s11 _ _ e10), SqL.of e11, rfl, rfl, k H11⟩
end
end Pw


set_option Elab.async false
set_option linter.all false
set_option maxRecDepth 100000
set_option maxHeartbeats 4000000
namespace Pw
open PySem L2
theorem all_mk {l : PySem.W.OpenLaw} {w : World} {K : PySem.W.Frag} {h : Heap} {mg : Str → Option Value} {fa f1 f2 f3 f4 f5 f6 f7 f8 f9 f10 f11 f12 f13 f14 f15 f16 f17 f18 f19 f20 f21 f22 f23 dt : Addr}
    {od1 an1 od2 an2 od3 an3 od4 an4 od5 an5 od6 an6 od7 an7 od8 an8 od9 an9 od10 an10 od11 an11 od12 an12 od13 an13 od14 an14 od15 an15 od16 an16 od17 an17 od18 an18 od19 an19 od20 an20 od21 an21 od22 an22 od23 an23 : Option Addr}
    {sl1 sl2 sl3 sl4 sl5 sl6 sl7 sl8 sl9 sl10 sl11 sl12 sl13 sl14 sl15 sl16 sl17 sl18 sl19 sl20 sl21 sl22 sl23 : Array (Option Value)}
    {oc1 kV1 dc1 pm1 cd1 ct1 oc2 kV2 dc2 pm2 cd2 ct2 oc3 kV3 dc3 pm3 cd3 ct3 oc4 kV4 dc4 pm4 cd4 ct4 oc5 kV5 dc5 pm5 cd5 ct5 oc6 kV6 dc6 pm6 cd6 ct6 oc7 kV7 dc7 pm7 cd7 ct7 oc8 kV8 dc8 pm8 cd8 ct8 oc9 kV9 dc9 pm9 cd9 ct9 oc10 kV10 dc10 pm10 cd10 ct10 oc11 kV11 dc11 pm11 cd11 ct11 oc12 kV12 dc12 pm12 cd12 ct12 oc13 kV13 dc13 pm13 cd13 ct13 oc14 kV14 dc14 pm14 cd14 ct14 oc15 kV15 dc15 pm15 cd15 ct15 oc16 kV16 dc16 pm16 cd16 ct16 oc17 kV17 dc17 pm17 cd17 ct17 oc18 kV18 dc18 pm18 cd18 ct18 oc19 kV19 dc19 pm19 cd19 ct19 oc20 kV20 dc20 pm20 cd20 ct20 oc21 kV21 dc21 pm21 cd21 ct21 oc22 kV22 dc22 pm22 cd22 ct22 oc23 kV23 dc23 pm23 cd23 ct23 : Value}
    {aN CB : Addr} {aod : Option Addr} {an0 : Nat} {asl : Array (Option Value)} {u1 u2 : Tok}
    {tod : Option Addr} {tn : Nat} {tsl : Array (Option Value)} {t1 : Tok}
    (X : K.In h) (G : h.Ns mainGlobals mg) (hfa : mg "law" = some (.ref fa))
    (a1 : PySem.W.nsIn K mainGlobals "greatest_divisor" = some (some (.ref f1))) (l1 : K.lookup f1 = some ⟨oc1, od1, .func (PySem.W.fnOf "greatest_divisor" "greatest_divisor" (defArgs s_greatest_divisor) (defBody s_greatest_divisor) (defScope s_greatest_divisor) .none kV1 dc1 pm1 an1 cd1 ct1), sl1⟩) (c1 : PySem.W.codeIn K cd1 "greatest_divisor" = true) (k1 : PySem.W.keepIn K (.ref f1) = true)
    (a2 : PySem.W.nsIn K mainGlobals "fraction" = some (some (.ref f2))) (l2 : K.lookup f2 = some ⟨oc2, od2, .func (PySem.W.fnOf "fraction" "fraction" (defArgs s_fraction) (defBody s_fraction) (defScope s_fraction) (.ref dt) kV2 dc2 pm2 an2 cd2 ct2), sl2⟩) (c2 : PySem.W.codeIn K cd2 "fraction" = true) (k2 : PySem.W.keepIn K (.ref f2) = true)
    (a3 : PySem.W.nsIn K mainGlobals "plus" = some (some (.ref f3))) (l3 : K.lookup f3 = some ⟨oc3, od3, .func (PySem.W.fnOf "plus" "plus" (defArgs s_plus) (defBody s_plus) (defScope s_plus) .none kV3 dc3 pm3 an3 cd3 ct3), sl3⟩) (c3 : PySem.W.codeIn K cd3 "plus" = true) (k3 : PySem.W.keepIn K (.ref f3) = true)
    (a4 : PySem.W.nsIn K mainGlobals "times" = some (some (.ref f4))) (l4 : K.lookup f4 = some ⟨oc4, od4, .func (PySem.W.fnOf "times" "times" (defArgs s_times) (defBody s_times) (defScope s_times) .none kV4 dc4 pm4 an4 cd4 ct4), sl4⟩) (c4 : PySem.W.codeIn K cd4 "times" = true) (k4 : PySem.W.keepIn K (.ref f4) = true)
    (a5 : PySem.W.nsIn K mainGlobals "shown_fraction" = some (some (.ref f5))) (l5 : K.lookup f5 = some ⟨oc5, od5, .func (PySem.W.fnOf "shown_fraction" "shown_fraction" (defArgs s_shown) (defBody s_shown) (defScope s_shown) .none kV5 dc5 pm5 an5 cd5 ct5), sl5⟩) (c5 : PySem.W.codeIn K cd5 "shown_fraction" = true) (k5 : PySem.W.keepIn K (.ref f5) = true)
    (a6 : PySem.W.nsIn K mainGlobals "worth" = some (some (.ref f6))) (l6 : K.lookup f6 = some ⟨oc6, od6, .func (PySem.W.fnOf "worth" "worth" (defArgs s_worth) (defBody s_worth) (defScope s_worth) .none kV6 dc6 pm6 an6 cd6 ct6), sl6⟩) (c6 : PySem.W.codeIn K cd6 "worth" = true) (k6 : PySem.W.keepIn K (.ref f6) = true)
    (a7 : PySem.W.nsIn K mainGlobals "worth_of" = some (some (.ref f7))) (l7 : K.lookup f7 = some ⟨oc7, od7, .func (PySem.W.fnOf "worth_of" "worth_of" (defArgs s_worth_of) (defBody s_worth_of) (defScope s_worth_of) .none kV7 dc7 pm7 an7 cd7 ct7), sl7⟩) (c7 : PySem.W.codeIn K cd7 "worth_of" = true) (k7 : PySem.W.keepIn K (.ref f7) = true)
    (a8 : PySem.W.nsIn K mainGlobals "pairs_at" = some (some (.ref f8))) (l8 : K.lookup f8 = some ⟨oc8, od8, .func (PySem.W.fnOf "pairs_at" "pairs_at" (defArgs s_pairs_at) (defBody s_pairs_at) (defScope s_pairs_at) .none kV8 dc8 pm8 an8 cd8 ct8), sl8⟩) (c8 : PySem.W.codeIn K cd8 "pairs_at" = true) (k8 : PySem.W.keepIn K (.ref f8) = true)
    (a9 : PySem.W.nsIn K mainGlobals "answer_rows" = some (some (.ref f9))) (l9 : K.lookup f9 = some ⟨oc9, od9, .func (PySem.W.fnOf "answer_rows" "answer_rows" (defArgs s_answer_rows) (defBody s_answer_rows) (defScope s_answer_rows) .none kV9 dc9 pm9 an9 cd9 ct9), sl9⟩) (c9 : PySem.W.codeIn K cd9 "answer_rows" = true) (k9 : PySem.W.keepIn K (.ref f9) = true)
    (a10 : PySem.W.nsIn K mainGlobals "value_row" = some (some (.ref f10))) (l10 : K.lookup f10 = some ⟨oc10, od10, .func (PySem.W.fnOf "value_row" "value_row" (defArgs s_value_row) (defBody s_value_row) (defScope s_value_row) .none kV10 dc10 pm10 an10 cd10 ct10), sl10⟩) (c10 : PySem.W.codeIn K cd10 "value_row" = true) (k10 : PySem.W.keepIn K (.ref f10) = true)
    (a11 : PySem.W.nsIn K mainGlobals "_law_at" = some (some (.ref f11))) (l11 : K.lookup f11 = some ⟨oc11, od11, .func (PySem.W.fnOf "_law_at" "_law_at" (defArgs s_lat) (defBody s_lat) (defScope s_lat) .none kV11 dc11 pm11 an11 cd11 ct11), sl11⟩) (c11 : PySem.W.codeIn K cd11 "_law_at" = true) (k11 : PySem.W.keepIn K (.ref f11) = true)
    (a12 : PySem.W.nsIn K mainGlobals "_law_mixed" = some (some (.ref f12))) (l12 : K.lookup f12 = some ⟨oc12, od12, .func (PySem.W.fnOf "_law_mixed" "_law_mixed" (defArgs s_mixed) (defBody s_mixed) (defScope s_mixed) .none kV12 dc12 pm12 an12 cd12 ct12), sl12⟩) (c12 : PySem.W.codeIn K cd12 "_law_mixed" = true) (k12 : PySem.W.keepIn K (.ref f12) = true)
    (a13 : PySem.W.nsIn K mainGlobals "_law_lesser" = some (some (.ref f13))) (l13 : K.lookup f13 = some ⟨oc13, od13, .func (PySem.W.fnOf "_law_lesser" "_law_lesser" (defArgs s_lesser) (defBody s_lesser) (defScope s_lesser) .none kV13 dc13 pm13 an13 cd13 ct13), sl13⟩) (c13 : PySem.W.codeIn K cd13 "_law_lesser" = true) (k13 : PySem.W.keepIn K (.ref f13) = true)
    (a14 : PySem.W.nsIn K mainGlobals "_law_fraction" = some (some (.ref f14))) (l14 : K.lookup f14 = some ⟨oc14, od14, .func (PySem.W.fnOf "_law_fraction" "_law_fraction" (defArgs s_lfrac) (defBody s_lfrac) (defScope s_lfrac) .none kV14 dc14 pm14 an14 cd14 ct14), sl14⟩) (c14 : PySem.W.codeIn K cd14 "_law_fraction" = true) (k14 : PySem.W.keepIn K (.ref f14) = true)
    (a15 : PySem.W.nsIn K mainGlobals "_law_labels" = some (some (.ref f15))) (l15 : K.lookup f15 = some ⟨oc15, od15, .func (PySem.W.fnOf "_law_labels" "_law_labels" (defArgs s_labels) (defBody s_labels) (defScope s_labels) .none kV15 dc15 pm15 an15 cd15 ct15), sl15⟩) (c15 : PySem.W.codeIn K cd15 "_law_labels" = true) (k15 : PySem.W.keepIn K (.ref f15) = true)
    (a16 : PySem.W.nsIn K mainGlobals "_law_pairs" = some (some (.ref f16))) (l16 : K.lookup f16 = some ⟨oc16, od16, .func (PySem.W.fnOf "_law_pairs" "_law_pairs" (defArgs s_lpairs) (defBody s_lpairs) (defScope s_lpairs) .none kV16 dc16 pm16 an16 cd16 ct16), sl16⟩) (c16 : PySem.W.codeIn K cd16 "_law_pairs" = true) (k16 : PySem.W.keepIn K (.ref f16) = true)
    (a17 : PySem.W.nsIn K mainGlobals "_law_plan" = some (some (.ref f17))) (l17 : K.lookup f17 = some ⟨oc17, od17, .func (PySem.W.fnOf "_law_plan" "_law_plan" (defArgs s_plan) (defBody s_plan) (defScope s_plan) .none kV17 dc17 pm17 an17 cd17 ct17), sl17⟩) (c17 : PySem.W.codeIn K cd17 "_law_plan" = true) (k17 : PySem.W.keepIn K (.ref f17) = true)
    (a18 : PySem.W.nsIn K mainGlobals "_law_fractions" = some (some (.ref f18))) (l18 : K.lookup f18 = some ⟨oc18, od18, .func (PySem.W.fnOf "_law_fractions" "_law_fractions" (defArgs s_fracs) (defBody s_fracs) (defScope s_fracs) .none kV18 dc18 pm18 an18 cd18 ct18), sl18⟩) (c18 : PySem.W.codeIn K cd18 "_law_fractions" = true) (k18 : PySem.W.keepIn K (.ref f18) = true)
    (a19 : PySem.W.nsIn K mainGlobals "_law_number_text" = some (some (.ref f19))) (l19 : K.lookup f19 = some ⟨oc19, od19, .func (PySem.W.fnOf "_law_number_text" "_law_number_text" (defArgs s_ntext) (defBody s_ntext) (defScope s_ntext) .none kV19 dc19 pm19 an19 cd19 ct19), sl19⟩) (c19 : PySem.W.codeIn K cd19 "_law_number_text" = true) (k19 : PySem.W.keepIn K (.ref f19) = true)
    (a20 : PySem.W.nsIn K mainGlobals "_law_tree" = some (some (.ref f20))) (l20 : K.lookup f20 = some ⟨oc20, od20, .func (PySem.W.fnOf "_law_tree" "_law_tree" (defArgs s_tree) (defBody s_tree) (defScope s_tree) .none kV20 dc20 pm20 an20 cd20 ct20), sl20⟩) (c20 : PySem.W.codeIn K cd20 "_law_tree" = true) (k20 : PySem.W.keepIn K (.ref f20) = true)
    (a21 : PySem.W.nsIn K mainGlobals "_law_outcome" = some (some (.ref f21))) (l21 : K.lookup f21 = some ⟨oc21, od21, .func (PySem.W.fnOf "_law_outcome" "_law_outcome" (defArgs s_outcome) (defBody s_outcome) (defScope s_outcome) .none kV21 dc21 pm21 an21 cd21 ct21), sl21⟩) (c21 : PySem.W.codeIn K cd21 "_law_outcome" = true) (k21 : PySem.W.keepIn K (.ref f21) = true)
    (a22 : PySem.W.nsIn K mainGlobals "_law_worth" = some (some (.ref f22))) (l22 : K.lookup f22 = some ⟨oc22, od22, .func (PySem.W.fnOf "_law_worth" "_law_worth" (defArgs s_lworth) (defBody s_lworth) (defScope s_lworth) .none kV22 dc22 pm22 an22 cd22 ct22), sl22⟩) (c22 : PySem.W.codeIn K cd22 "_law_worth" = true) (k22 : PySem.W.keepIn K (.ref f22) = true)
    (a23 : PySem.W.nsIn K mainGlobals "law" = some (some (.ref f23))) (l23 : K.lookup f23 = some ⟨oc23, od23, .func (PySem.W.fnOf "law" "law" (defArgs s_law) (defBody s_law) (defScope s_law) .none kV23 dc23 pm23 an23 cd23 ct23), sl23⟩) (c23 : PySem.W.codeIn K cd23 "law" = true) (k23 : PySem.W.keepIn K (.ref f23) = true)
    (dl : K.lookup dt = some ⟨.type "tuple", tod, .seq #[.int 1 t1] tn, tsl⟩)
    (z_isinstance : PySem.W.nsIn K mainGlobals "isinstance" = some none)
    (z_int : PySem.W.nsIn K mainGlobals "int" = some none)
    (z_bool : PySem.W.nsIn K mainGlobals "bool" = some none)
    (z_str : PySem.W.nsIn K mainGlobals "str" = some none)
    (z_tuple : PySem.W.nsIn K mainGlobals "tuple" = some none)
    (z_len : PySem.W.nsIn K mainGlobals "len" = some none)
    (z_abs : PySem.W.nsIn K mainGlobals "abs" = some none)
    (z_list : PySem.W.nsIn K mainGlobals "list" = some none)
    (z_range : PySem.W.nsIn K mainGlobals "range" = some none)
    (z_all : PySem.W.nsIn K mainGlobals "all" = some none)
    (z_zip : PySem.W.nsIn K mainGlobals "zip" = some none)
    (g1 : PySem.W.nsIn K mainGlobals "NOUGHT" = some (some (.ref aN)))
    (g2 : K.lookup aN = some ⟨.type "tuple", aod, .seq #[.int 0 u1, .int 1 u2] an0, asl⟩)
    (x0 : PySem.W.nsIn K mainGlobals "BadFraction" = some (some (.ref CB)))
    (qb : PySem.W.excIn K CB veB "ValueError.__new__" = true) :
    ∃ fd : FuncData, (∀ (s : Shared) (v : Value), BindsTo s fd ⟨[v], []⟩ [("_law_script", v)]) ∧ ∀ base : Heap, K.In base → base.Ns mainGlobals mg → FnOk l.prog w K mg base CX0 9 fa fd ["_law_script"] (spLaw K) := by
  have e := hfa.symm.trans (PySem.W.mg_of X G a23)
  cases e
  have M := fun {x : Str} {v : Value} (q : PySem.W.nsIn K mainGlobals x = some (some v)) => PySem.W.mg_of X G q
  have Z := fun {x : Str} (q : PySem.W.nsIn K mainGlobals x = some none) => PySem.W.mg_none_of X G q
  have B : Blt mg := ⟨Z z_isinstance, Z z_int, Z z_bool, Z z_str, Z z_tuple, Z z_len, Z z_abs, Z z_list, Z z_range, Z z_all, Z z_zip⟩
  have D1 : DefAt K mg "greatest_divisor" s_greatest_divisor f1 _ ["one", "other"] := ⟨fun_mk (st := s_greatest_divisor) l1 c1 k1, (fun_mk (st := s_greatest_divisor) l1 c1 k1).binds (ps := ["one", "other"]) fun _ _ _ _ _ _ us hl => match us, hl with | [_, _], _ => rfl, M a1⟩
  have D2 : DefD K mg "fraction" s_fraction (.ref dt) f2 _ ["top", "bottom"] [.int 1 t1] := ⟨funD_mk (st := s_fraction) l2 c2 k2, (fun s us KX hl => by
      obtain ⟨u, v, rfl⟩ : ∃ u v, us = [u, v] := by
        rcases us with _ | ⟨u, _ | ⟨v, _ | ⟨z, r⟩⟩⟩ <;> simp at hl
        exact ⟨u, v, rfl⟩
      exact BindsTo.of_defaults rfl (KX _ _ dl) rfl rfl rfl), (fun s us KX hl => by
      obtain ⟨u, rfl⟩ : ∃ u, us = [u] := by
        rcases us with _ | ⟨u, _ | ⟨v, r⟩⟩ <;> simp at hl
        exact ⟨u, rfl⟩
      exact BindsTo.of_defaults rfl (KX _ _ dl) rfl rfl rfl), .cons ⟨t1, rfl⟩ .nil, M a2⟩
  have D3 : DefAt K mg "plus" s_plus f3 _ ["one", "other"] := ⟨fun_mk (st := s_plus) l3 c3 k3, (fun_mk (st := s_plus) l3 c3 k3).binds (ps := ["one", "other"]) fun _ _ _ _ _ _ us hl => match us, hl with | [_, _], _ => rfl, M a3⟩
  have D4 : DefAt K mg "times" s_times f4 _ ["one", "other"] := ⟨fun_mk (st := s_times) l4 c4 k4, (fun_mk (st := s_times) l4 c4 k4).binds (ps := ["one", "other"]) fun _ _ _ _ _ _ us hl => match us, hl with | [_, _], _ => rfl, M a4⟩
  have D5 : DefAt K mg "shown_fraction" s_shown f5 _ ["one"] := ⟨fun_mk (st := s_shown) l5 c5 k5, (fun_mk (st := s_shown) l5 c5 k5).binds (ps := ["one"]) fun _ _ _ _ _ _ us hl => match us, hl with | [_], _ => rfl, M a5⟩
  have D6 : DefAt K mg "worth" s_worth f6 _ ["one", "values"] := ⟨fun_mk (st := s_worth) l6 c6 k6, (fun_mk (st := s_worth) l6 c6 k6).binds (ps := ["one", "values"]) fun _ _ _ _ _ _ us hl => match us, hl with | [_, _], _ => rfl, M a6⟩
  have D7 : DefAt K mg "worth_of" s_worth_of f7 _ ["plan", "values"] := ⟨fun_mk (st := s_worth_of) l7 c7 k7, (fun_mk (st := s_worth_of) l7 c7 k7).binds (ps := ["plan", "values"]) fun _ _ _ _ _ _ us hl => match us, hl with | [_, _], _ => rfl, M a7⟩
  have D8 : DefAt K mg "pairs_at" s_pairs_at f8 _ ["pairs", "values"] := ⟨fun_mk (st := s_pairs_at) l8 c8 k8, (fun_mk (st := s_pairs_at) l8 c8 k8).binds (ps := ["pairs", "values"]) fun _ _ _ _ _ _ us hl => match us, hl with | [_, _], _ => rfl, M a8⟩
  have D9 : DefAt K mg "answer_rows" s_answer_rows f9 _ ["plan", "outcome"] := ⟨fun_mk (st := s_answer_rows) l9 c9 k9, (fun_mk (st := s_answer_rows) l9 c9 k9).binds (ps := ["plan", "outcome"]) fun _ _ _ _ _ _ us hl => match us, hl with | [_, _], _ => rfl, M a9⟩
  have D10 : DefAt K mg "value_row" s_value_row f10 _ ["label", "value"] := ⟨fun_mk (st := s_value_row) l10 c10 k10, (fun_mk (st := s_value_row) l10 c10 k10).binds (ps := ["label", "value"]) fun _ _ _ _ _ _ us hl => match us, hl with | [_, _], _ => rfl, M a10⟩
  have D11 : DefAt K mg "_law_at" s_lat f11 _ ["_law_script", "_law_k"] := ⟨fun_mk (st := s_lat) l11 c11 k11, (fun_mk (st := s_lat) l11 c11 k11).binds (ps := ["_law_script", "_law_k"]) fun _ _ _ _ _ _ us hl => match us, hl with | [_, _], _ => rfl, M a11⟩
  have D12 : DefAt K mg "_law_mixed" s_mixed f12 _ ["_law_cell", "_law_k"] := ⟨fun_mk (st := s_mixed) l12 c12 k12, (fun_mk (st := s_mixed) l12 c12 k12).binds (ps := ["_law_cell", "_law_k"]) fun _ _ _ _ _ _ us hl => match us, hl with | [_, _], _ => rfl, M a12⟩
  have D13 : DefAt K mg "_law_lesser" s_lesser f13 _ ["_law_top", "_law_bottom"] := ⟨fun_mk (st := s_lesser) l13 c13 k13, (fun_mk (st := s_lesser) l13 c13 k13).binds (ps := ["_law_top", "_law_bottom"]) fun _ _ _ _ _ _ us hl => match us, hl with | [_, _], _ => rfl, M a13⟩
  have D14 : DefAt K mg "_law_fraction" s_lfrac f14 _ ["_law_cell"] := ⟨fun_mk (st := s_lfrac) l14 c14 k14, (fun_mk (st := s_lfrac) l14 c14 k14).binds (ps := ["_law_cell"]) fun _ _ _ _ _ _ us hl => match us, hl with | [_], _ => rfl, M a14⟩
  have D15 : DefAt K mg "_law_labels" s_labels f15 _ ["_law_cell", "_law_many"] := ⟨fun_mk (st := s_labels) l15 c15 k15, (fun_mk (st := s_labels) l15 c15 k15).binds (ps := ["_law_cell", "_law_many"]) fun _ _ _ _ _ _ us hl => match us, hl with | [_, _], _ => rfl, M a15⟩
  have D16 : DefAt K mg "_law_pairs" s_lpairs f16 _ ["_law_cell", "_law_many"] := ⟨fun_mk (st := s_lpairs) l16 c16 k16, (fun_mk (st := s_lpairs) l16 c16 k16).binds (ps := ["_law_cell", "_law_many"]) fun _ _ _ _ _ _ us hl => match us, hl with | [_, _], _ => rfl, M a16⟩
  have D17 : DefAt K mg "_law_plan" s_plan f17 _ ["_law_script"] := ⟨fun_mk (st := s_plan) l17 c17 k17, (fun_mk (st := s_plan) l17 c17 k17).binds (ps := ["_law_script"]) fun _ _ _ _ _ _ us hl => match us, hl with | [_], _ => rfl, M a17⟩
  have D18 : DefAt K mg "_law_fractions" s_fracs f18 _ ["_law_cell", "_law_many"] := ⟨fun_mk (st := s_fracs) l18 c18 k18, (fun_mk (st := s_fracs) l18 c18 k18).binds (ps := ["_law_cell", "_law_many"]) fun _ _ _ _ _ _ us hl => match us, hl with | [_, _], _ => rfl, M a18⟩
  have D19 : DefAt K mg "_law_number_text" s_ntext f19 _ ["_law_one"] := ⟨fun_mk (st := s_ntext) l19 c19 k19, (fun_mk (st := s_ntext) l19 c19 k19).binds (ps := ["_law_one"]) fun _ _ _ _ _ _ us hl => match us, hl with | [_], _ => rfl, M a19⟩
  have D20 : DefAt K mg "_law_tree" s_tree f20 _ ["_law_cell", "_law_deep", "_law_plan_here"] := ⟨fun_mk (st := s_tree) l20 c20 k20, (fun_mk (st := s_tree) l20 c20 k20).binds (ps := ["_law_cell", "_law_deep", "_law_plan_here"]) fun _ _ _ _ _ _ us hl => match us, hl with | [_, _, _], _ => rfl, M a20⟩
  have D21 : DefAt K mg "_law_outcome" s_outcome f21 _ ["_law_script", "_law_plan_here"] := ⟨fun_mk (st := s_outcome) l21 c21 k21, (fun_mk (st := s_outcome) l21 c21 k21).binds (ps := ["_law_script", "_law_plan_here"]) fun _ _ _ _ _ _ us hl => match us, hl with | [_, _], _ => rfl, M a21⟩
  have D22 : DefAt K mg "_law_worth" s_lworth f22 _ ["_law_plan_here", "_law_values"] := ⟨fun_mk (st := s_lworth) l22 c22 k22, (fun_mk (st := s_lworth) l22 c22 k22).binds (ps := ["_law_plan_here", "_law_values"]) fun _ _ _ _ _ _ us hl => match us, hl with | [_, _], _ => rfl, M a22⟩
  exact ⟨_, fun s v => .of_eq rfl, fun base _ _ => ok_law (fun_mk (st := s_law) l23 c23 k23) B (show Cst K mg aN from ⟨M g1, fun H => .inr ⟨_, _, _, g2, rfl, rfl, (by show 2 ≤ sizeLine; decide), .cons ⟨_, rfl⟩ (.cons ⟨_, rfl⟩ .nil)⟩⟩) D2 D1 ⟨M x0, qb⟩ D3 D4 D6 D8 D7 D5 D10 D14 D13 D12 D11 D15 D16 D18 D20 D17 D21 D22 D19 D9⟩
theorem walk {l : PySem.W.OpenLaw} {q : Program} {loose : List Str} {XP : (Str → Option Value) → Heap → Prop} {YP : World → Heap → Prop} {d : DefRec} {K : Params → PySem.W.Frag} (hn : l.most = some 63) (hdf : d.params.defaults = [])
    (hY : ∀ (w : World) (h : Heap), YP w h → (K w.params).In h)
    (F : ∀ (w : World) (mg : Str → Option Value) (fa : Addr) (h : Heap), (K w.params).In h → h.Ns mainGlobals mg → mg d.name = some (.ref fa) →
      ∃ fd : FuncData, (∀ (s : Shared) (u : Value), BindsTo s fd ⟨[u], []⟩ [("_law_script", u)]) ∧ ∀ base : Heap, (K w.params).In base → base.Ns mainGlobals mg → FnOk l.prog w (K w.params) mg base CX0 9 fa fd ["_law_script"] (spLaw (K w.params))) :
    PySem.W.WalkO q loose XP YP l.row.toRowW d [] (fun f vs => PySem.call f vs) :=
  L2.walk_ofB (n := 63) (k := 9) (x := "_law_script") (CX := fun _ => CX0) (sp := fun w => spLaw (K w.params)) hn (by decide) hdf ⟨rfl, by decide, by decide⟩ hY F (fun _ _ a ns hl few _ hS => ⟨a, ns, rfl, hS, hl, few, fun _ => rfl⟩) fun _ _ _ _ _ z => z
end Pw
open PySem PySem.W PyProof.Rows
set_option maxRecDepth 100000 in
set_option maxHeartbeats 0 in
theorem PySem.Challenge.cw_planwell_k27_answers_in_rows_holds : PySem.Challenge.rw_planwell_k27_answers_in_rows.Holds := by
  w_on; o_law; k_head; (case hw => w_witness2)
  k_fill
  refine Pw.walk (l := PySem.Challenge.rw_planwell_k27_answers_in_rows) rfl rfl (fun w h Y => PySem.W.kIn_of Y) ?F
  case F =>
    intro w mg fa h KX G hmg
    refine' Pw.all_mk KX G hmg ?a1 ?l1 ?c1 ?k1 ?a2 ?l2 ?c2 ?k2 ?a3 ?l3 ?c3 ?k3 ?a4 ?l4 ?c4 ?k4 ?a5 ?l5 ?c5 ?k5 ?a6 ?l6 ?c6 ?k6 ?a7 ?l7 ?c7 ?k7 ?a8 ?l8 ?c8 ?k8 ?a9 ?l9 ?c9 ?k9 ?a10 ?l10 ?c10 ?k10 ?a11 ?l11 ?c11 ?k11 ?a12 ?l12 ?c12 ?k12 ?a13 ?l13 ?c13 ?k13 ?a14 ?l14 ?c14 ?k14 ?a15 ?l15 ?c15 ?k15 ?a16 ?l16 ?c16 ?k16 ?a17 ?l17 ?c17 ?k17 ?a18 ?l18 ?c18 ?k18 ?a19 ?l19 ?c19 ?k19 ?a20 ?l20 ?c20 ?k20 ?a21 ?l21 ?c21 ?k21 ?a22 ?l22 ?c22 ?k22 ?a23 ?l23 ?c23 ?k23 ?dl ?z_isinstance ?z_int ?z_bool ?z_str ?z_tuple ?z_len ?z_abs ?z_list ?z_range ?z_all ?z_zip ?g1 ?g2 ?x0 ?qb
    (case a1 => k_is)
    (case l1 => k_is)
    (case c1 => k_is)
    (case k1 => k_is)
    (case a2 => k_is)
    (case l2 => k_is)
    (case c2 => k_is)
    (case k2 => k_is)
    (case a3 => k_is)
    (case l3 => k_is)
    (case c3 => k_is)
    (case k3 => k_is)
    (case a4 => k_is)
    (case l4 => k_is)
    (case c4 => k_is)
    (case k4 => k_is)
    (case a5 => k_is)
    (case l5 => k_is)
    (case c5 => k_is)
    (case k5 => k_is)
    (case a6 => k_is)
    (case l6 => k_is)
    (case c6 => k_is)
    (case k6 => k_is)
    (case a7 => k_is)
    (case l7 => k_is)
    (case c7 => k_is)
    (case k7 => k_is)
    (case a8 => k_is)
    (case l8 => k_is)
    (case c8 => k_is)
    (case k8 => k_is)
    (case a9 => k_is)
    (case l9 => k_is)
    (case c9 => k_is)
    (case k9 => k_is)
    (case a10 => k_is)
    (case l10 => k_is)
    (case c10 => k_is)
    (case k10 => k_is)
    (case a11 => k_is)
    (case l11 => k_is)
    (case c11 => k_is)
    (case k11 => k_is)
    (case a12 => k_is)
    (case l12 => k_is)
    (case c12 => k_is)
    (case k12 => k_is)
    (case a13 => k_is)
    (case l13 => k_is)
    (case c13 => k_is)
    (case k13 => k_is)
    (case a14 => k_is)
    (case l14 => k_is)
    (case c14 => k_is)
    (case k14 => k_is)
    (case a15 => k_is)
    (case l15 => k_is)
    (case c15 => k_is)
    (case k15 => k_is)
    (case a16 => k_is)
    (case l16 => k_is)
    (case c16 => k_is)
    (case k16 => k_is)
    (case a17 => k_is)
    (case l17 => k_is)
    (case c17 => k_is)
    (case k17 => k_is)
    (case a18 => k_is)
    (case l18 => k_is)
    (case c18 => k_is)
    (case k18 => k_is)
    (case a19 => k_is)
    (case l19 => k_is)
    (case c19 => k_is)
    (case k19 => k_is)
    (case a20 => k_is)
    (case l20 => k_is)
    (case c20 => k_is)
    (case k20 => k_is)
    (case a21 => k_is)
    (case l21 => k_is)
    (case c21 => k_is)
    (case k21 => k_is)
    (case a22 => k_is)
    (case l22 => k_is)
    (case c22 => k_is)
    (case k22 => k_is)
    (case a23 => k_is)
    (case l23 => k_is)
    (case c23 => k_is)
    (case k23 => k_is)
    (case dl => k_is)
    (case z_isinstance => k_is)
    (case z_int => k_is)
    (case z_bool => k_is)
    (case z_str => k_is)
    (case z_tuple => k_is)
    (case z_len => k_is)
    (case z_abs => k_is)
    (case z_list => k_is)
    (case z_range => k_is)
    (case z_all => k_is)
    (case z_zip => k_is)
    (case g1 => k_is)
    (case g2 => k_is)
    (case x0 => k_is)
    (case qb => k_exc)
#print axioms PySem.Challenge.cw_planwell_k27_answers_in_rows_holds


