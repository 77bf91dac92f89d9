import PyProof.Rows.All
import Wide.All
import OpenK.AllK
import Wide.FinOn
import Lean
import PyProof.EqAt
import PyProof.EqKinds
import PyProof.TupleCall
import PySem.Challenge.RW_planwell_k04_sums
-- CHANGE: your row's module here, as the last of these rows
set_option Elab.async false
set_option linter.all false
set_option maxRecDepth 100000
namespace L2
open PySem PySem.Spec PyProof.Rows

abbrev Key := Sum Int Str
def keyIs : Key → Value → Bool
  | .inl k, v => Value.isInt k v
  | .inr x, v => Value.isStrOf x v
def keyH (w : World) : Key → Int
  | .inl k => hashInt k
  | .inr x => hashStr w x
theorem keyIs_shape : ∀ {k : Key} {v : Value}, keyIs k v = true → (∃ i t, k = Sum.inl i ∧ v = Value.int i t) ∨ (∃ x t, k = Sum.inr x ∧ v = Value.str x t)
  | .inl i, v, h => by
    obtain ⟨t, e⟩ := Value.isInt_shape (k := i) (v := v) h
    exact .inl ⟨i, t, rfl, e⟩
  | .inr x, v, h => by
    obtain ⟨t, e⟩ := Value.isStrOf_shape (x := x) (v := v) h
    exact .inr ⟨x, t, rfl, e⟩
theorem keyIs_int (i : Int) (t : Tok) : keyIs (.inl i) (.int i t) = true := by simp [keyIs, Value.isInt]
theorem keyIs_str (x : Str) (t : Tok) : keyIs (.inr x) (.str x t) = true := by simp [keyIs, Value.isStrOf]
theorem key_ll (a b : Int) : decide ((Sum.inl a : Key) = Sum.inl b) = (a == b) := by
  by_cases e : a = b
  · subst e; simp
  · have h : ¬ (Sum.inl a : Key) = Sum.inl b := fun q => e (Sum.inl.inj q)
    rw [decide_eq_false h]
    exact (beq_eq_false_iff_ne.mpr e).symm
theorem key_rr (a b : Str) : decide ((Sum.inr a : Key) = Sum.inr b) = decide (a = b) := by
  by_cases e : a = b
  · subst e; simp
  · have h : ¬ (Sum.inr a : Key) = Sum.inr b := fun q => e (Sum.inr.inj q)
    rw [decide_eq_false h, decide_eq_false e]
theorem key_lr (a : Int) (b : Str) : decide ((Sum.inl a : Key) = Sum.inr b) = false := decide_eq_false (fun q => nomatch q)
theorem key_rl (a : Str) (b : Int) : decide ((Sum.inr a : Key) = Sum.inl b) = false := decide_eq_false (fun q => nomatch q)

def mixKind (prog : Program) (w : World) : PySem.KeyKind prog w Key where
  is := keyIs
  hash := keyH w
  inj := fun v a b ha hb => by
    rcases keyIs_shape ha with ⟨i, t, rfl, rfl⟩ | ⟨x, t, rfl, rfl⟩
    · rcases keyIs_shape hb with ⟨j, u, rfl, e⟩ | ⟨y, u, rfl, e⟩
      · injection e with e1 _; rw [e1]
      · exact nomatch e
    · rcases keyIs_shape hb with ⟨j, u, rfl, e⟩ | ⟨y, u, rfl, e⟩
      · exact nomatch e
      · injection e with e1 _; rw [e1]
  byValue := fun k v h => by
    rcases keyIs_shape h with ⟨i, t, rfl, rfl⟩ | ⟨x, t, rfl, rfl⟩ <;> rfl
  pyHash := fun hv h => by
    rcases keyIs_shape hv with ⟨i, t, rfl, rfl⟩ | ⟨x, t, rfl, rfl⟩
    · exact wpAny_pyHash_int h
    · exact wpAny_pyHash_str h
  eqBool := fun hu hv h => by
    rcases keyIs_shape hu with ⟨i, t, rfl, rfl⟩ | ⟨x, t, rfl, rfl⟩
    · rcases keyIs_shape hv with ⟨j, u, rfl, rfl⟩ | ⟨y, u, rfl, rfl⟩
      · rw [key_ll] at h; exact wpAny_eqBool_int h
      · rw [key_lr] at h; exact SeqAt.EqAt.int_str i t y u _ _ _ _ h
    · rcases keyIs_shape hv with ⟨j, u, rfl, rfl⟩ | ⟨y, u, rfl, rfl⟩
      · rw [key_rl] at h; exact SeqAt.EqAt.str_int x t j u _ _ _ _ h
      · rw [key_rr] at h; exact wpAny_eqBool_str h
  «strs» := fun k x t v h => by
    rcases keyIs_shape h with ⟨i, u, rfl, e⟩ | ⟨y, u, rfl, e⟩
    · exact nomatch e
    · injection e with e1 _
      subst e1
      cases v <;> rfl

theorem mixKind_int (prog : Program) (w : World) (i : Int) (t : Tok) : (mixKind prog w).is (.inl i) (.int i t) = true := keyIs_int i t
theorem mixKind_str (prog : Program) (w : World) (x : Str) (t : Tok) : (mixKind prog w).is (.inr x) (.str x t) = true := keyIs_str x t
end L2

namespace L2
open PySem PySem.Spec PyProof.Rows

inductive V where
  | non | bl (b : Bool) | int (i : Int) | str (x : Str) | byt (b : Array UInt8) | flt (b : UInt64) | ref (a : Addr) | ty (n : String)
  deriving DecidableEq

def RelV : V → Value → Prop
  | .non, u => u = Value.none
  | .bl b, u => u = Value.bool b
  | .int i, u => ∃ t, u = Value.int i t
  | .str x, u => ∃ t, u = Value.str x t
  | .byt b, u => ∃ t, u = Value.bytes b t
  | .flt b, u => ∃ t, u = Value.float b t
  | .ref a, u => u = Value.ref a
  | .ty n, u => u = Value.type n

abbrev Vals : List V → List Value → Prop := Paired RelV
theorem Vals.length {xs : List V} {us : List Value} (r : Vals xs us) : xs.length = us.length := Paired.length r
theorem Vals.get : ∀ {xs : List V} {us : List Value} {i : Nat} {x : V}, Vals xs us → xs[i]? = some x → ∃ u, us[i]? = some u ∧ RelV x u
  | _, _, _, _, .nil, e => by simp at e
  | _, _, 0, _, .cons r _, e => by simp at e; subst e; exact ⟨_, rfl, r⟩
  | _, _, i + 1, x, .cons _ t, e => by
    obtain ⟨u, h1, h2⟩ := Vals.get (i := i) (x := x) t (by simpa using e)
    exact ⟨u, by simpa using h1, h2⟩
theorem Vals.append : ∀ {xs ys : List V} {us ws : List Value}, Vals xs us → Vals ys ws → Vals (xs ++ ys) (us ++ ws)
  | _, _, _, _, .nil, s => s
  | _, _, _, _, .cons r t, s => .cons r (Vals.append t s)
def RelO : Option V → Option Value → Prop
  | some v, some u => RelV v u
  | none, none => True
  | _, _ => False
def KV {κ : Type} : List (κ × V) → List (κ × Value) → Prop := Paired fun (p : κ × V) (q : κ × Value) => p.1 = q.1 ∧ RelV p.2 q.2

def kV : Key → V
  | .inl i => .int i
  | .inr x => .str x

def IsTupN (h : Heap) (a : Addr) (items : Array Value) : Prop := ∃ o, h.get? a = some o ∧ (o.cls = .type "tuple" ∧ o.dict = none) ∧ ∃ n, o.data = .seq items n
theorem IsTupN.tup {h : Heap} {a : Addr} {items : Array Value} (x : IsTupN h a items) : IsTup h a items := let ⟨o, e, c, r⟩ := x; ⟨o, e, c.1, r⟩
theorem IsTupN.lt {h : Heap} {a : Addr} {items : Array Value} (x : IsTupN h a items) : a < h.objs.size := x.tup.lt
theorem IsTupN.new (h : Heap) (items : Array Value) : IsTupN (h.push { cls := .type "tuple", data := .seq items }) h.objs.size items := ⟨_, Heap.get?_push_size _ rfl, ⟨rfl, rfl⟩, _, rfl⟩
inductive HO where
  /-- a list -/
  | lst (xs : List V)
  /-- a tuple (never changes) -/
  | tup (xs : List V)
  /-- a dict whose keys are ints and texts; one whose keys are tuples of ints and texts (the empty one is both) -/
  | dK (kvs : List (Key × V)) | dT (kvs : List (List Key × V))
  /-- a set of ints: its members, its size -/
  | set (S : Int → Bool) (n : Nat)
  /-- an instance of the class at C, its dict at dx, its attributes -/
  | ins (C dx : Addr) (fs : List (Str × V))
  /-- the dict of the instance at x -/
  | own (x : Addr)
  /-- the dict of an exception -/
  | xd (fs : List (Str × V))
  /-- a bound method, f of x -/
  | met (f x : Addr)
  /-- a range object lo, lo + 1, .. below hi -/
  | rng (lo hi : Int)
  /-- a thing that is known to the object (the script; a dict while a loop walks it): read, never written while it is so -/
  | frz (o : Obj) (u : HO)
  /-- a code object's table -/
  | tbl (ps : Array Value)
  /-- any other thing, by what is true of its one object (a def of one's own: SetO a S n := HO.ext fun h => ..) -/
  | ext (φ : Heap → Prop)

abbrev Hp := Addr → Option HO
def upd (H : Hp) (a : Addr) (o : HO) : Hp := fun b => if b = a then some o else H b
theorem upd_same {H : Hp} {a : Addr} {o : HO} : upd H a o a = some o := by unfold upd; rw [if_pos rfl]
theorem upd_ne {H : Hp} {a b : Addr} {o : HO} (h : b ≠ a) : upd H a o b = H b := by unfold upd; rw [if_neg h]
theorem ne_of {H : Hp} {a b : Addr} {o u : HO} (h : H a = some o) (h' : H b = some u) (d : o ≠ u) : a ≠ b := by
  intro e; subst e; rw [h] at h'; exact d (Option.some.inj h')
theorem ne_of_none {H : Hp} {a b : Addr} {o : HO} (h : H a = some o) (h' : H b = none) : a ≠ b := by
  intro e; subst e; rw [h] at h'; cases h'

section
variable (P : Program) (w : World)
def ObjOk (H : Hp) (h : Heap) (a : Addr) : HO → Prop
  | .lst xs => xs.length ≤ sizeLine ∧ ∃ (its : List Value) (n : Nat), Vals xs its ∧ h.get? a = some { cls := .type "list", data := .seq its.toArray n }
  | .tup xs => xs.length ≤ sizeLine ∧ ∃ its : List Value, Vals xs its ∧ IsTupN h a its.toArray
  | .dK kvs => kvs.length ≤ sizeLine ∧ (a == sysModules) = false ∧ ∃ vs, KV kvs vs ∧ h.DictOf (mixKind P w) a vs
  | .dT kvs => kvs.length ≤ sizeLine ∧ (a == sysModules) = false ∧ ∃ xs : List (List Key × Addr × Value),
      Paired (fun (p : List Key × V) (q : List Key × Addr × Value) => p.1 = q.1 ∧ H q.2.1 = some (.tup (p.1.map kV)) ∧ RelV p.2 q.2.2) kvs xs ∧
      ∃ o es ep, h.get? a = some o ∧ o.ExactDict ∧ o.data = .dict es ep ∧ es.toList = xs.map (entryOfKey (tupleKind (mixKind P w))) ∧ (xs.map (·.1)).Nodup
  | .set S n => h.SetOf (intKind P w) a S n
  | .ins C dx fs => H dx = some (.own a) ∧ fs.length ≤ 1000 ∧ dx ≠ a ∧ h.get? a = some (PySem.W.instObj C dx) ∧
      ∃ mA, h.Ns1 dx mA ∧ (∀ f, RelO (fs.lookup f) (mA f)) ∧ PySem.Within mA (fs.map (·.1))
  | .own _ => ∃ o, h.get? a = some o
  | .xd fs => ∃ mA, h.Ns1 a mA ∧ ∀ f, RelO (fs.lookup f) (mA f)
  | .rng lo hi => ∃ t u v, h.get? a = some { cls := .type "range", data := .fields #[.int lo t, .int hi u, .int 1 v] }
  | .frz o u => h.get? a = some o ∧ ObjOk H h a u
  | .tbl ps => h.get? a = some { cls := .none, data := .fields ps }
  | .met f x => h.get? a = some (PySem.W.methodObj (.ref f) (.ref x))
  | .ext φ => φ h ∧ (∃ o, h.get? a = some o) ∧ ∀ h1 h2 : Heap, φ h1 → (∀ o, h1.get? a = some o → h2.get? a = some o) → φ h2
def HOk (H : Hp) (h : Heap) : Prop := ∀ a o, H a = some o → ObjOk P w H h a o
end

section
variable {P : Program} {w : World} {H H' : Hp} {h h' : Heap} {a : Addr} {o : HO}
theorem ObjOk.lt (x : ObjOk P w H h a o) : a < h.objs.size := by
  cases o with
  | lst xs => obtain ⟨_, _, _, _, e⟩ := x; exact Heap.lt_size e
  | tup xs => obtain ⟨_, _, _, p⟩ := x; exact p.lt
  | dK kvs => obtain ⟨_, _, _, _, o, _, _, e, _⟩ := x; exact Heap.lt_size e
  | dT kvs => obtain ⟨_, _, _, _, o, _, _, e, _⟩ := x; exact Heap.lt_size e
  | set S n => obtain ⟨o, _, _, _, e, _⟩ := x; exact Heap.lt_size e
  | ins C dx fs => obtain ⟨_, _, _, e, _⟩ := x; exact Heap.lt_size e
  | own y => obtain ⟨_, e⟩ := x; exact Heap.lt_size e
  | xd fs => obtain ⟨_, ⟨_, _, _, e, _⟩, _⟩ := x; exact Heap.lt_size e
  | rng lo hi => obtain ⟨_, _, _, e⟩ := x; exact Heap.lt_size e
  | frz ob u => obtain ⟨e, _⟩ := x; exact Heap.lt_size e
  | tbl ps => exact Heap.lt_size (show h.get? a = some _ from x)
  | met f y => exact Heap.lt_size (show h.get? a = some _ from x)
  | ext φ => obtain ⟨_, ⟨_, e⟩, _⟩ := x; exact Heap.lt_size e
theorem Paired.mapP {α β : Type} {F G : α → β → Prop} : ∀ {l₁ : List α} {l₂ : List β}, Paired F l₁ l₂ → (∀ a b, F a b → G a b) → Paired G l₁ l₂
  | _, _, .nil, _ => .nil
  | _, _, .cons r t, f => .cons (f _ _ r) (Paired.mapP t f)
theorem ObjOk.stay (x : ObjOk P w H h a o) (k : ∀ b u, (b = a ∨ H b = some (.own a)) → h.get? b = some u → h'.get? b = some u)
    (ho : ∀ b, H b = some (.own a) → H' b = some (.own a)) (ht : ∀ b xs, H b = some (.tup xs) → H' b = some (.tup xs)) : ObjOk P w H' h' a o := by
  induction o with
  | lst xs => obtain ⟨z, its, n, r, e⟩ := x; exact ⟨z, its, n, r, k _ _ (.inl rfl) e⟩
  | tup xs => obtain ⟨z, its, r, ob, e, c⟩ := x; exact ⟨z, its, r, ob, k _ _ (.inl rfl) e, c⟩
  | dK kvs => obtain ⟨z, y, vs, r, ob, es, ep, e, c⟩ := x; exact ⟨z, y, vs, r, ob, es, ep, k _ _ (.inl rfl) e, c⟩
  | dT kvs =>
    obtain ⟨z, y, xs, r, ob, es, ep, e, c⟩ := x
    exact ⟨z, y, xs, Paired.mapP r fun p q z => ⟨z.1, ht _ _ z.2.1, z.2.2⟩, ob, es, ep, k _ _ (.inl rfl) e, c⟩
  | set S n => obtain ⟨ob, es, ep, t, e, c⟩ := x; exact ⟨ob, es, ep, t, k _ _ (.inl rfl) e, c⟩
  | ins C dx fs =>
    obtain ⟨d, z, ne, e, mA, ⟨od, es, ep, e2, c⟩, r⟩ := x
    exact ⟨ho _ d, z, ne, k _ _ (.inl rfl) e, mA, ⟨od, es, ep, k _ _ (.inr d) e2, c⟩, r⟩
  | own y => obtain ⟨ob, e⟩ := x; exact ⟨ob, k _ _ (.inl rfl) e⟩
  | xd fs => obtain ⟨mA, ⟨od, es, ep, e, c⟩, r⟩ := x; exact ⟨mA, ⟨od, es, ep, k _ _ (.inl rfl) e, c⟩, r⟩
  | rng lo hi => obtain ⟨t, u, v, e⟩ := x; exact ⟨t, u, v, k _ _ (.inl rfl) e⟩
  | frz ob u ih => obtain ⟨e, q⟩ := x; exact ⟨k _ _ (.inl rfl) e, ih q⟩
  | tbl ps =>
    have e : h.get? a = some { cls := .none, data := .fields ps } := x
    show h'.get? a = some { cls := .none, data := .fields ps }
    exact k a _ (.inl rfl) e
  | met f y =>
    have e : h.get? a = some (PySem.W.methodObj (.ref f) (.ref y)) := x
    show h'.get? a = some (PySem.W.methodObj (.ref f) (.ref y))
    exact k a _ (.inl rfl) e
  | ext φ => obtain ⟨p, ⟨o, e⟩, st⟩ := x; exact ⟨st _ _ p fun o q => k _ _ (.inl rfl) q, ⟨o, k _ _ (.inl rfl) e⟩, st⟩
theorem HOk.lt (x : HOk P w H h) (e : H a = some o) : a < h.objs.size := (x a o e).lt
theorem HOk.fresh (x : HOk P w H h) (e : h.objs.size ≤ a) : H a = none := by
  cases q : H a with
  | none => rfl
  | some u => exact absurd (Nat.lt_of_lt_of_le (x.lt q) e) (Nat.lt_irrefl _)
theorem HOk.kept (x : HOk P w H h) (k : ∀ b u, h.get? b = some u → h'.get? b = some u) : HOk P w H h' := fun a o e =>
  (x a o e).stay (fun b u _ q => k b u q) (fun _ q => q) fun _ _ q => q
theorem HOk.laid (x : HOk P w H h) (k : ∀ b u, h.get? b = some u → h'.get? b = some u) (hp : h.objs.size ≤ a) (new : ObjOk P w (upd H a o) h' a o) : HOk P w (upd H a o) h' := fun b u e => by
  have hn := x.fresh hp
  by_cases hb : b = a
  · subst hb; rw [upd_same] at e; cases e; exact new
  · rw [upd_ne hb] at e
    exact (x b u e).stay (fun c v _ q => k c v q) (fun c q => by rw [upd_ne (ne_of_none q hn)]; exact q) fun c xs q => by rw [upd_ne (ne_of_none q hn)]; exact q
end

def Rd (H : Hp) (a : Addr) (u : HO) : Prop := H a = some u ∨ ∃ o, H a = some (.frz o u)
theorem Rd.ok {P : Program} {w : World} {H : Hp} {h : Heap} {a : Addr} {u : HO} (r : Rd H a u) (x : HOk P w H h) : ObjOk P w H h a u := by
  rcases r with r | ⟨o, r⟩
  · exact x a u r
  · obtain ⟨_, q⟩ := x a _ r
    exact q
def Mut : Option HO → Prop
  | some (.lst _) => True
  | some (.dK _) => True
  | some (.dT _) => True
  | some (.set _ _) => True
  | some (.ins _ _ _) => True
  | some (.ext _) => True
  | _ => False
section
variable {P : Program} {w : World} {H : Hp} {h h' : Heap} {x e : Addr} {o' : HO}
theorem HOk.write (ok : HOk P w H h) (mu : Mut (H x)) (he : e = x ∨ H e = some (.own x)) (k : ∀ b u, b ≠ e → h.get? b = some u → h'.get? b = some u) (heo : ∃ u, h'.get? e = some u)
    (new : ObjOk P w (upd H x o') h' x o') : HOk P w (upd H x o') h' := fun b u q => by
  have nown : ∀ c y, H c = some (.own y) → c ≠ x := fun c y r z => by subst z; rw [r] at mu; exact mu
  have ntup : ∀ c xs, H c = some (.tup xs) → c ≠ x := fun c xs r z => by subst z; rw [r] at mu; exact mu
  by_cases hb : b = x
  · subst hb; rw [upd_same] at q; cases q; exact new
  · rw [upd_ne hb] at q
    by_cases hbe : b = e
    · have q' : H b = some (.own x) := by
        rcases he with z | z
        · exact absurd (hbe.trans z) hb
        · rw [hbe]; exact z
      rw [q] at q'; cases q'
      obtain ⟨v, hv⟩ := heo
      exact ⟨v, by rw [hbe]; exact hv⟩
    · refine (ok b u q).stay (fun c v hc r => k c v ?_ r) (fun c r => by rw [upd_ne (nown c b r)]; exact r) fun c xs r => by rw [upd_ne (ntup c xs r)]; exact r
      rcases hc with rfl | hc
      · exact hbe
      · rintro rfl
        rcases he with z | z
        · exact nown c b hc z
        · rw [hc] at z; cases z; exact hb rfl
end

structure Un (fs ex : List Addr) (H H' : Hp) (h h' : Heap) : Prop where
  keep : ∀ b o, h.get? b = some o → H b = none → b ∉ fs → b ∉ ex → h'.get? b = some o
  slot : ∀ b o, h.get? b = some o → H b = none → b ∈ fs → b ∉ ex → ∃ sl, h'.get? b = some { o with slots := sl }
  free : ∀ b o, h.get? b = some o → H b = none → b ∉ ex → H' b = none
  there : ∀ b o, h.get? b = some o → b ∉ ex → ∃ o', h'.get? b = some o'
  tups : ∀ b xs, H b = some (.tup xs) → H' b = some (.tup xs)
  frzs : ∀ b o u, H b = some (.frz o u) → H' b = some (.frz o u)
  tbls : ∀ b ps, H b = some (.tbl ps) → ∃ more, H' b = some (.tbl (ps ++ more))
section
variable {fs fs' ex ex' : List Addr} {H H1 H2 : Hp} {h h1 h2 h' : Heap} {a x e : Addr} {o : HO}
theorem Un.any (u : Un fs ex H H1 h h1) {b : Addr} {ob : Obj} (q : h.get? b = some ob) (n : H b = none) (hx : b ∉ ex) : ∃ sl, h1.get? b = some { ob with slots := sl } := by
  by_cases hb : b ∈ fs
  · exact u.slot b ob q n hb hx
  · exact ⟨ob.slots, u.keep b ob q n hb hx⟩
theorem Un.kept (k : ∀ b u, h.get? b = some u → h'.get? b = some u) : Un fs ex H H h h' :=
  ⟨fun b ob q _ _ _ => k b ob q, fun b ob q _ _ _ => ⟨ob.slots, k b ob q⟩, fun _ _ _ n _ => n, fun b ob q _ => ⟨ob, k b ob q⟩, fun _ _ q => q, fun _ _ _ q => q, fun _ ps q => ⟨#[], by rw [q]; simp⟩⟩
theorem Un.refl : Un fs ex H H h h := Un.kept fun _ _ q => q
theorem Un.laid (k : ∀ b u, h.get? b = some u → h'.get? b = some u) (hp : h.objs.size ≤ a) (hn : H a = none) : Un fs ex H (upd H a o) h h' where
  keep := fun b u q _ _ _ => k b u q
  slot := fun b u q _ _ _ => ⟨u.slots, k b u q⟩
  free := fun b u q n _ => by rw [upd_ne (Nat.ne_of_lt (Nat.lt_of_lt_of_le (Heap.lt_size q) hp))]; exact n
  there := fun b u q _ => ⟨u, k b u q⟩
  tups := fun b xs q => by rw [upd_ne (ne_of_none q hn)]; exact q
  frzs := fun b u xs q => by rw [upd_ne (ne_of_none q hn)]; exact q
  tbls := fun b ps q => ⟨#[], by rw [upd_ne (ne_of_none q hn), q]; simp⟩
theorem Un.write (mu : Mut (H x)) (he : e = x ∨ H e = some (.own x)) (k : ∀ b u, b ≠ e → h.get? b = some u → h'.get? b = some u) (heo : ∃ u, h'.get? e = some u) : Un fs ex H (upd H x o) h h' := by
  have hx : ∀ b, H b = none → b ≠ x := fun b n z => by subst z; rw [n] at mu; exact mu
  have hb : ∀ b, H b = none → b ≠ e := fun b n z => by
    subst z
    rcases he with r | r
    · exact hx b n r
    · rw [n] at r; cases r
  have hm : ∀ b u, H b = some u → ¬ Mut (some u) → b ≠ x := fun b u q nm z => by subst z; rw [q] at mu; exact nm mu
  refine ⟨fun b u q n _ _ => k b u (hb b n) q, fun b u q n _ _ => ⟨u.slots, k b u (hb b n) q⟩, fun b u q n _ => by rw [upd_ne (hx b n)]; exact n, fun b u q _ => ?_,
    fun b xs q => by rw [upd_ne (hm b _ q fun z => z)]; exact q, fun b u xs q => by rw [upd_ne (hm b _ q fun z => z)]; exact q, fun b ps q => ⟨#[], by rw [upd_ne (hm b _ q fun z => z), q]; simp⟩⟩
  by_cases hbe : b = e
  · subst hbe; exact heo
  · exact ⟨u, k b u hbe q⟩
end

def trk (h : Heap) (H : Hp) : List Addr := (List.range h.objs.size).filter fun a => (H a).isSome
def hidT (h : Heap) (H : Hp) : Heap := PySem.W.hideAll h (trk h H)
theorem hidT_size (h : Heap) (H : Hp) : (hidT h H).objs.size = h.objs.size := PySem.W.hideAll_size _ _
theorem hidT_get {h : Heap} {H : Hp} {b : Addr} {o : Obj} (e : h.get? b = some o) (n : H b = none) : (hidT h H).get? b = some o :=
  PySem.W.hideAll_get _ e fun hm => by
    have q : (H b).isSome = true := (List.mem_filter.mp hm).2
    rw [n] at q; simp at q
theorem of_hidT {h : Heap} {H : Hp} {b : Addr} {o : Obj} (e : (hidT h H).get? b = some o) : h.get? b = some o ∧ H b = none := by
  have e' : h.get? b = some o := PySem.W.of_hideAll (trk h H) e
  refine ⟨e', ?_⟩
  cases q : H b with
  | none => rfl
  | some x =>
    have hm : b ∈ trk h H := List.mem_filter.mpr ⟨List.mem_range.mpr (Heap.lt_size e'), by simp [q]⟩
    have z : (hidT h H).get? b = none := PySem.W.hideAll_none (trk h H) hm
    rw [z] at e; cases e

end L2

namespace L2
open PySem PySem.Spec PyProof.Rows

structure Mod (K : PySem.W.Frag) (mg : Str → Option Value) (base : Heap) : Prop where
  kin : K.In base
  glob : base.Ns mainGlobals mg
  blt : ∃ mb, base.Ns builtinsNs mb ∧ ∀ x : Str, x ≠ "__name__" → mb x = bootBuiltins x
  nolimit : base.NoLimit

structure Cx where
  prog : Program
  w : World
  K : PySem.W.Frag
  mg : Str → Option Value
  base : Heap
  A : Around
  N : List Str
  s₀ : Shared
  H₀ : Hp
  env : Env
  outer : List Env
  stack : List Env
  ex : List Addr
  fn : Str → Bool
  calm : Bool
  pn : List (Addr × Obj)
  xe : Value → Shared → Prop
def frs (l : List Env) : List Addr := l.filterMap (·.frame)
abbrev Cx.fs (X : Cx) : List Addr := frs X.outer

def Vis (sc : Scope) (x : Str) : Prop := sc.names.lookup x = some .local ∨ sc.names.lookup x = some .cell ∨ sc.names.lookup x = some .free
def Loc (sc : Scope) (x : Str) : Prop := sc.names.lookup x = some .local ∨ sc.names.lookup x = some .cell
def Look (env : Env) (h : Heap) (m : Str → Option Value) (x : Str) (u : Value) : Prop :=
  (env.kindOf x = some .local ∧ m x = some u) ∨ ((env.kindOf x = some .cell ∨ env.kindOf x = some .free) ∧ ∃ c, env.cells.lookup x = some c ∧ h.IsCell c (some u))

structure Cx.Ok (X : Cx) : Prop where
  mod : Mod X.K X.mg X.base
  kind : X.env.scope.kind = .function
  glob : X.env.globals = mainGlobals
  blt : X.env.builtins = builtinsNs
  above : X.s₀.heap.objs.size ≤ X.env.locals
  inj : ∀ x y c, X.env.cells.lookup x = some c → X.env.cells.lookup y = some c → x = y
  has : ∀ x, (X.env.kindOf x = some .cell ∨ X.env.kindOf x = some .free) → ∃ c, X.env.cells.lookup x = some c
  cab : ∀ x c, X.fn x = true → X.env.cells.lookup x = some c → X.s₀.heap.objs.size ≤ c
  hd : X.calm = true → X.A.handled = none
  frames : X.A.frames = some X.stack
  stk : X.stack = X.outer ∨ (X.stack = X.env :: X.outer ∧ X.env.frame = some X.env.locals)
  exf : ∀ b ∈ X.ex, b ≠ X.env.locals ∧ ∀ x c, X.env.cells.lookup x = some c → c ≠ b
  bs : ∀ b o, X.base.get? b = some o → X.s₀.heap.get? b = some o ∧ X.H₀ b = none
  bsz : X.base.objs.size ≤ X.s₀.heap.objs.size
  noex : ∀ b o, X.base.get? b = some o → b ∉ X.ex
  exfs : ∀ b ∈ X.ex, b ∉ X.fs
  funs : X.s₀.heap.FunFrames X.base X.outer
  frf : ∀ b ∈ X.fs, X.H₀ b = none

structure Inv (X : Cx) (pins : List (Addr × Obj)) (σ : List (Option V)) (H : Hp) (s : Shared) : Prop where
  ok : X.Ok
  os : s.os = X.s₀.os
  bare : AllBare s.gens
  base : Un X.fs X.ex X.H₀ H X.s₀.heap s.heap
  loc : ∃ m, s.heap.Ns X.env.locals m ∧ ∀ (i : Nat) (x : Str) (v : V), X.N[i]? = some x → σ[i]? = some (some v) → Vis X.env.scope x → ∃ u, RelV v u ∧ Look X.env s.heap m x u
  cell : ∀ x c, X.env.cells.lookup x = some c → ∃ v, s.heap.IsCell c v
  free : H X.env.locals = none
  freeC : ∀ x c, X.env.cells.lookup x = some c → H c = none
  pin : ∀ p ∈ X.pn ++ pins, s.heap.get? p.1 = some p.2 ∧ H p.1 = none ∧ p.1 ≠ X.env.locals ∧ p.1 ∉ X.fs ∧ ∀ v, p.2.data ≠ .cell v
  hok : HOk X.prog X.w H s.heap
  len : σ.length = X.N.length

section
variable {X : Cx} {pins : List (Addr × Obj)} {σ : List (Option V)} {H H' : Hp} {s : Shared} {h' : Heap}

theorem Cx.Ok.nofr (ok : X.Ok) {b : Addr} {o : Obj} (e : X.base.get? b = some o) : b ∉ X.fs := fun hb => by
  have := (ok.funs.mem hb).1
  rw [e] at this; cases this
theorem Inv.bs (I : Inv X pins σ H s) : ∀ b o, X.base.get? b = some o → s.heap.get? b = some o ∧ H b = none := fun b o e =>
  ⟨I.base.keep b o (I.ok.bs b o e).1 (I.ok.bs b o e).2 (I.ok.nofr e) (I.ok.noex b o e), I.base.free b o (I.ok.bs b o e).1 (I.ok.bs b o e).2 (I.ok.noex b o e)⟩
theorem Inv.bk (I : Inv X pins σ H s) : ∀ b o, X.base.get? b = some o → s.heap.get? b = some o := fun b o e => (I.bs b o e).1
theorem Inv.mod (I : Inv X pins σ H s) : Mod X.K X.mg X.base := I.ok.mod
theorem Inv.kIn (I : Inv X pins σ H s) : X.K.In s.heap := I.ok.mod.kin.keeps I.bk
theorem Inv.lt (I : Inv X pins σ H s) : X.env.locals < s.heap.objs.size := let ⟨_, hn, _⟩ := I.loc; hn.lt
theorem Inv.sz (I : Inv X pins σ H s) : X.s₀.heap.objs.size ≤ s.heap.objs.size := Nat.le_trans I.ok.above (Nat.le_of_lt I.lt)
theorem Inv.nofs (I : Inv X pins σ H s) {a : Addr} (h : s.heap.objs.size ≤ a) : a ∉ X.fs := fun hb => by
  obtain ⟨_, o, ho, _⟩ := I.ok.funs.mem hb
  exact absurd (Nat.lt_of_lt_of_le (Heap.lt_size ho) (Nat.le_trans I.sz h)) (Nat.lt_irrefl _)
theorem Inv.cne (I : Inv X pins σ H s) : ∀ x c, X.env.cells.lookup x = some c → c ≠ X.env.locals := fun x c e z => by
  obtain ⟨v, o, ho, hd⟩ := I.cell x c e
  obtain ⟨m, ⟨o', es, ep, ho', hd', _⟩, _⟩ := I.loc
  rw [z, ho'] at ho; cases ho; rw [hd'] at hd; cases hd
theorem Inv.funs (I : Inv X pins σ H s) : s.heap.FunFrames X.base X.outer := by
  have all : ∀ (l : List Env), (∀ b ∈ frs l, b ∈ X.fs) → X.s₀.heap.FunFrames X.base l → s.heap.FunFrames X.base l := by
    intro l
    induction l with
    | nil => intro _ _; trivial
    | cons env r ih =>
      intro hs hl
      obtain ⟨hk, ⟨L, o, hf, hn, ho, hd⟩, hr⟩ := hl
      have hL : L ∈ X.fs := hs L (by unfold frs; rw [List.filterMap_cons, hf]; exact List.mem_cons_self)
      obtain ⟨sl, e⟩ := I.base.slot L o ho (I.ok.frf L hL) hL fun z => I.ok.exfs L z hL
      exact ⟨hk, ⟨L, _, hf, hn, e, hd⟩, ih (fun b hb => hs b (by unfold frs; rw [List.filterMap_cons, hf]; exact List.mem_cons_of_mem _ hb)) hr⟩
  exact all X.outer (fun _ hb => hb) I.ok.funs

theorem Inv.stack (I : Inv X pins σ H s) : s.heap.FunFrames X.base X.stack := by
  rcases I.ok.stk with e | ⟨e, hf⟩
  · rw [e]; exact I.funs
  · rw [e]
    obtain ⟨m, hn, _⟩ := I.loc
    refine .cons (by rw [I.ok.kind]; decide) hf hn ?_ I.funs
    exact Heap.get?_none_of_le (Nat.le_trans I.ok.bsz I.ok.above)
theorem Inv.stkSub (I : Inv X pins σ H s) : ∀ b ∈ frs X.stack, b ∈ X.env.locals :: X.fs := fun b hb => by
  rcases I.ok.stk with e | ⟨e, hf⟩
  · rw [e] at hb; exact List.mem_cons_of_mem _ hb
  · rw [e] at hb
    unfold frs at hb
    rw [List.filterMap_cons, hf] at hb
    exact hb
theorem Inv.stkFree (I : Inv X pins σ H s) : ∀ b ∈ frs X.stack, H b = none := fun b hb => by
  rcases List.mem_cons.mp (I.stkSub b hb) with e | hb
  · rw [e]; exact I.free
  · obtain ⟨_, o, ho, _⟩ := I.ok.funs.mem hb
    exact I.base.free b o ho (I.ok.frf b hb) fun z => I.ok.exfs b z hb

theorem Inv.step {g' : Array GenState} {t' : Nat} {d' : Drawn} {ch : List Addr} (I : Inv X pins σ H s)
    (hch : ∀ b ∈ ch, (b ∈ X.ex ∨ X.s₀.heap.objs.size ≤ b) ∧ b ≠ X.env.locals ∧ (∀ x c, X.env.cells.lookup x = some c → c ≠ b) ∧ ∀ p ∈ X.pn ++ pins, p.1 ≠ b)
    (keep : ∀ b o, b ≠ X.env.locals → b ∉ X.fs → b ∉ ch → s.heap.get? b = some o → H b = none → h'.get? b = some o)
    (slot : ∀ b o, b ≠ X.env.locals → b ∈ X.fs → b ∉ ch → s.heap.get? b = some o → H b = none → ∃ sl, h'.get? b = some { o with slots := sl }) (free : ∀ b o, b ∉ ch → s.heap.get? b = some o → H b = none → H' b = none)
    (there : ∀ b o, b ∉ ch → s.heap.get? b = some o → ∃ o', h'.get? b = some o')
    (tups : ∀ b xs, H b = some (.tup xs) → H' b = some (.tup xs)) (frzs : ∀ b o u, H b = some (.frz o u) → H' b = some (.frz o u)) (tbls : ∀ b ps, H b = some (.tbl ps) → ∃ more, H' b = some (.tbl (ps ++ more)))
    (ns : ∀ m, s.heap.Ns X.env.locals m → h'.Ns X.env.locals m) (hok : HOk X.prog X.w H' h') (hg : AllBare g') :
    Inv X pins σ H' { s with heap := h', gens := g', drawn := d', toks := t' } := by
  have neL : ∀ b o, X.s₀.heap.get? b = some o → b ≠ X.env.locals := fun b o e => Nat.ne_of_lt (Nat.lt_of_lt_of_le (Heap.lt_size e) I.ok.above)
  have neC : ∀ b o, X.s₀.heap.get? b = some o → b ∉ X.ex → b ∉ ch := fun b o e hx hb => by
    rcases (hch b hb).1 with z | z
    · exact hx z
    · exact absurd (Nat.lt_of_lt_of_le (Heap.lt_size e) z) (Nat.lt_irrefl _)
  have cellK : ∀ x c, X.env.cells.lookup x = some c → ∀ v, s.heap.IsCell c v → h'.IsCell c v := fun x c e v ⟨o, ho, hd⟩ => by
    have nch : c ∉ ch := fun z => (hch c z).2.2.1 x c e rfl
    by_cases hc : c ∈ X.fs
    · obtain ⟨sl, q⟩ := slot c o (I.cne x c e) hc nch ho (I.freeC x c e)
      exact ⟨_, q, hd⟩
    · exact ⟨o, keep c o (I.cne x c e) hc nch ho (I.freeC x c e), hd⟩
  refine ⟨I.ok, I.os, hg, ⟨fun b o e n hb hx => ?_, fun b o e n hb hx => ?_, fun b o e n hx => ?_, fun b o e hx => ?_, fun b xs e => tups b xs (I.base.tups b xs e), fun b o xs e => frzs b o xs (I.base.frzs b o xs e), fun b ps e => ?_⟩, ?_, fun x c e => ?_, ?_, fun x c e => ?_, fun p hp => ?_, hok, I.len⟩
  · exact keep b o (neL b o e) hb (neC b o e hx) (I.base.keep b o e n hb hx) (I.base.free b o e n hx)
  · obtain ⟨sl, e1⟩ := I.base.slot b o e n hb hx
    obtain ⟨sl', e2⟩ := slot b _ (neL b o e) hb (neC b o e hx) e1 (I.base.free b o e n hx)
    exact ⟨sl', e2⟩
  · obtain ⟨o', e1⟩ := I.base.there b o e hx
    exact free b o' (neC b o e hx) e1 (I.base.free b o e n hx)
  · obtain ⟨o', e1⟩ := I.base.there b o e hx
    exact there b o' (neC b o e hx) e1
  · obtain ⟨m1, e1⟩ := I.base.tbls b ps e
    obtain ⟨m2, e2⟩ := tbls b _ e1
    exact ⟨m1 ++ m2, by rw [e2, Array.append_assoc]⟩
  · obtain ⟨m, hn, hl⟩ := I.loc
    refine ⟨m, ns m hn, fun i x v e1 e2 e3 => ?_⟩
    obtain ⟨u, r, l⟩ := hl i x v e1 e2 e3
    refine ⟨u, r, ?_⟩
    rcases l with l | ⟨k, c, e, z⟩
    · exact .inl l
    · exact .inr ⟨k, c, e, cellK x c e _ z⟩
  · obtain ⟨v, z⟩ := I.cell x c e
    exact ⟨v, cellK x c e v z⟩
  · obtain ⟨m, ⟨o, _, _, ho, _⟩, _⟩ := I.loc
    exact free _ o (fun z => (hch _ z).2.1 rfl) ho I.free
  · obtain ⟨v, o, ho, hd⟩ := I.cell x c e
    exact free c o (fun z => (hch c z).2.2.1 x c e rfl) ho (I.freeC x c e)
  · obtain ⟨e, n, ne, nf, d⟩ := I.pin p hp
    have nch : p.1 ∉ ch := fun z => (hch p.1 z).2.2.2 p hp rfl
    exact ⟨keep p.1 p.2 ne nf nch e n, free p.1 p.2 nch e n, ne, nf, d⟩
theorem Inv.un {t' : Nat} (I : Inv X pins σ H s) (u : Un X.fs [] H H' s.heap h') (hok : HOk X.prog X.w H' h') : Inv X pins σ H' { s with heap := h', toks := t' } := by
  obtain ⟨m, ⟨o, es, ep, ho, r⟩, _⟩ := id I.loc
  obtain ⟨sl, hL⟩ := u.any ho I.free (by simp)
  exact I.step (g' := s.gens) (d' := s.drawn) (ch := []) (fun _ z => nomatch z) (fun b o _ hb _ e n => u.keep b o e n hb (by simp)) (fun b o _ hb _ e n => u.slot b o e n hb (by simp)) (fun b o _ e n => u.free b o e n (by simp)) (fun b o _ e => u.there b o e (by simp)) u.tups u.frzs u.tbls (fun m' hm => by
    obtain ⟨o', es', ep', ho', r'⟩ := hm
    rw [ho] at ho'; cases ho'
    exact ⟨_, es', ep', hL, r'⟩) hok I.bare
theorem Inv.call {g' : Array GenState} {t' : Nat} {d' : Drawn} {ch : List Addr} (I : Inv X pins σ H s) (u : Un (frs X.stack) ch H H' s.heap h') (hok : HOk X.prog X.w H' h') (hg : AllBare g')
    (hch : ∀ b ∈ ch, (b ∈ X.ex ∨ X.s₀.heap.objs.size ≤ b) ∧ b ≠ X.env.locals ∧ (∀ x c, X.env.cells.lookup x = some c → c ≠ b) ∧ ∀ p ∈ X.pn ++ pins, p.1 ≠ b) :
    Inv X pins σ H' { s with heap := h', gens := g', drawn := d', toks := t' } := by
  obtain ⟨m, ⟨o, es, ep, ho, r⟩, _⟩ := id I.loc
  obtain ⟨sl, hL⟩ := u.any ho I.free fun z => (hch _ z).2.1 rfl
  exact I.step (ch := ch) hch (fun b o hL hb hc e n => u.keep b o e n (fun z => (List.mem_cons.mp (I.stkSub b z)).elim hL hb) hc) (fun b o _ _ hc e n => u.any e n hc) (fun b o hc e n => u.free b o e n hc) (fun b o hc e => u.there b o e hc) u.tups u.frzs u.tbls (fun m' hm => by
    obtain ⟨o', es', ep', ho', r'⟩ := hm
    rw [ho] at ho'; cases ho'
    exact ⟨_, es', ep', hL, r'⟩) hok hg
theorem Inv.turned {t' : Nat} {it : Addr} (I : Inv X pins σ H s) (k : ∀ b o, b ≠ it → s.heap.get? b = some o → h'.get? b = some o) (hn : H it = none) (hL : it ≠ X.env.locals)
    (h1 : it ∈ X.ex ∨ X.s₀.heap.objs.size ≤ it) (h2 : ∀ x c, X.env.cells.lookup x = some c → c ≠ it) (h3 : ∀ p ∈ X.pn ++ pins, p.1 ≠ it) : Inv X pins σ H { s with heap := h', toks := t' } := by
  have nit : ∀ b u, H b = some u → b ≠ it := fun b u e z => by rw [z, hn] at e; cases e
  refine I.step (g' := s.gens) (d' := s.drawn) (ch := [it]) (fun b hb => ?_) (fun b o _ _ hc e _ => k b o (fun z => hc (by simp [z])) e) (fun b o _ _ hc e _ => ⟨o.slots, k b o (fun z => hc (by simp [z])) e⟩) (fun _ _ _ _ n => n)
    (fun b o hc e => ⟨o, k b o (fun z => hc (by simp [z])) e⟩) (fun _ _ e => e) (fun _ _ _ e => e) (fun b ps e => ⟨#[], by rw [e]; simp⟩) (fun m hm => ?_) (fun b u e => ?_) I.bare
  · have e : b = it := by simpa using hb
    subst e
    exact ⟨h1, hL, h2, h3⟩
  · obtain ⟨o, es, ep, ho, r⟩ := hm
    exact ⟨o, es, ep, k _ o (Ne.symm hL) ho, r⟩
  · refine (I.hok b u e).stay (fun c v hc q => k c v ?_ q) (fun _ q => q) fun _ _ q => q
    rcases hc with z | z
    · rw [z]; exact nit b u e
    · exact nit c _ z
theorem Inv.tok (I : Inv X pins σ H s) (t : Nat) : Inv X pins σ H { s with toks := t } := I.un (h' := s.heap) (t' := t) Un.refl I.hok
theorem Inv.kept {t' : Nat} (I : Inv X pins σ H s) (k : ∀ b u, s.heap.get? b = some u → h'.get? b = some u) : Inv X pins σ H { s with heap := h', toks := t' } := I.un (Un.kept k) (I.hok.kept k)
theorem Inv.laid {a : Addr} {o : HO} {t' : Nat} (I : Inv X pins σ H s) (k : ∀ b u, s.heap.get? b = some u → h'.get? b = some u) (hp : s.heap.objs.size ≤ a) (new : ObjOk X.prog X.w (upd H a o) h' a o) :
    Inv X pins σ (upd H a o) { s with heap := h', toks := t' } := I.un (Un.laid k hp (I.hok.fresh hp)) (I.hok.laid k hp new)
theorem Inv.write {x e : Addr} {o : HO} {t' : Nat} (I : Inv X pins σ H s) (mu : Mut (H x)) (he : e = x ∨ H e = some (.own x)) (k : ∀ b u, b ≠ e → s.heap.get? b = some u → h'.get? b = some u) (heo : ∃ u, h'.get? e = some u)
    (new : ObjOk X.prog X.w (upd H x o) h' x o) : Inv X pins σ (upd H x o) { s with heap := h', toks := t' } := I.un (Un.write mu he k heo) (I.hok.write mu he k heo new)
theorem Inv.pins_of {pins' : List (Addr × Obj)} (I : Inv X pins σ H s) (h : ∀ p ∈ pins', s.heap.get? p.1 = some p.2 ∧ H p.1 = none ∧ p.1 ≠ X.env.locals ∧ p.1 ∉ X.fs ∧ ∀ v, p.2.data ≠ .cell v) : Inv X pins' σ H s :=
  ⟨I.ok, I.os, I.bare, I.base, I.loc, I.cell, I.free, I.freeC, fun p hp => (List.mem_append.mp hp).elim (fun z => I.pin p (List.mem_append_left _ z)) (h p), I.hok, I.len⟩

theorem nodup_ix {N : List Str} (hN : N.Nodup) {i j : Nat} {x : Str} (a : N[i]? = some x) (b : N[j]? = some x) : i = j := by
  obtain ⟨h1, e1⟩ := List.getElem?_eq_some_iff.mp a
  obtain ⟨h2, e2⟩ := List.getElem?_eq_some_iff.mp b
  exact (List.getElem_inj hN).mp (e1.trans e2.symm)

theorem store_ok2 {M : Model} {A : Around} {E : Value → Shared → Prop} {i : Nat} {x : Str} {v : V} {u : Value} {Q : Unit → Shared → Prop} (I : Inv X pins σ H s) (hN : X.N.Nodup) (hi : X.N[i]? = some x) (hx : Loc X.env.scope x) (r : RelV v u)
    (h : ∀ s', Inv X pins (σ.set i (some v)) H s' → (∃ a, Heap.SameBut a s.heap s'.heap ∧ (a = X.env.locals ∨ X.env.cells.lookup x = some a)) → Q () s') (hf : X.fn x = true ∨ X.env.scope.names.lookup x = some .local := by first | exact .inl rfl | exact .inr rfl | assumption) : wpAny M A (storeName X.env x u) Q E s := by
  obtain ⟨m, hn, hl⟩ := id I.loc
  have hcls : (X.env.scope.kind == .class || (X.env.scope.kind == .module && X.env.locals != X.env.globals)) = false := by rw [I.ok.kind]; rfl
  have hiσ : i < σ.length := by rw [I.len]; exact (List.getElem?_eq_some_iff.mp hi).1
  have cne := I.cne
  have tracked : ∀ {a : Addr} {h' : Heap}, (∃ o, s.heap.get? a = some o ∧ H a = none) → Heap.SameBut a s.heap h' → HOk X.prog X.w H h' := fun {a h'} ha hs b ob e => by
    obtain ⟨_, _, hfree⟩ := ha
    refine (I.hok b ob e).stay (fun c w' hc q => (hs.2 c ?_).trans q) (fun _ q => q) fun _ _ q => q
    rintro rfl
    rcases hc with rfl | hc
    · rw [hfree] at e; cases e
    · rw [hfree] at hc; cases hc
  rcases hx with hk | hk
  · refine wpAny_storeName_local hk hn (fun h' hn' hs => ?_) hcls
    obtain ⟨oL, _, _, hoL, _⟩ := id hn
    refine h _ ⟨I.ok, I.os, I.bare, ⟨fun b o e n hb hx => ?_, fun b o e n hb hx => ?_, I.base.free, fun b o e hx => ?_, I.base.tups, I.base.frzs, I.base.tbls⟩, ⟨_, hn', fun j y v' e1 e2 e3 => ?_⟩, fun y c e => ?_, I.free, I.freeC, fun p hp => ?_, tracked ⟨oL, hoL, I.free⟩ hs, by simpa using I.len⟩ ⟨_, hs, .inl rfl⟩
    · exact (hs.2 b (Nat.ne_of_lt (Nat.lt_of_lt_of_le (Heap.lt_size e) I.ok.above))).trans (I.base.keep b o e n hb hx)
    · obtain ⟨sl, e1⟩ := I.base.slot b o e n hb hx
      exact ⟨sl, (hs.2 b (Nat.ne_of_lt (Nat.lt_of_lt_of_le (Heap.lt_size e) I.ok.above))).trans e1⟩
    · obtain ⟨o', e1⟩ := I.base.there b o e hx
      exact ⟨o', (hs.2 b (Nat.ne_of_lt (Nat.lt_of_lt_of_le (Heap.lt_size e) I.ok.above))).trans e1⟩
    · by_cases hj : j = i
      · subst hj
        rw [hi] at e1; cases e1
        rw [List.getElem?_set_self hiσ] at e2
        cases e2
        exact ⟨u, r, .inl ⟨hk, by simp⟩⟩
      · rw [List.getElem?_set_ne (Ne.symm hj)] at e2
        obtain ⟨u', r', q⟩ := hl j y v' e1 e2 e3
        refine ⟨u', r', ?_⟩
        rcases q with ⟨k, e⟩ | ⟨k, c, e, z⟩
        · refine .inl ⟨k, ?_⟩
          have : y ≠ x := fun e => hj (nodup_ix hN e1 (e ▸ hi))
          simp [this, e]
        · exact .inr ⟨k, c, e, z.sameBut hs (cne y c e)⟩
    · obtain ⟨w', z⟩ := I.cell y c e
      exact ⟨w', z.sameBut hs (cne y c e)⟩
    · obtain ⟨e, n, ne, nf, d⟩ := I.pin p hp
      exact ⟨(hs.2 p.1 ne).trans e, n, ne, nf, d⟩
  · have hfn : X.fn x = true := by
      rcases hf with z | z
      · exact z
      · rw [z] at hk; cases hk
    obtain ⟨c, hc⟩ := I.ok.has x (.inl hk)
    obtain ⟨w', z⟩ := I.cell x c hc
    refine wpAny_storeName_cell I.ok.kind hk hc z (fun h' hc' hs => ?_)
    obtain ⟨oc, hoc, hocd⟩ := id z
    refine h { s with heap := h' } ⟨I.ok, I.os, I.bare, ⟨fun b o e n hb hx => ?_, fun b o e n hb hx => ?_, I.base.free, fun b o e hx => ?_, I.base.tups, I.base.frzs, I.base.tbls⟩, ⟨m, hn.sameBut hs (Ne.symm (cne x c hc)), fun j y v' e1 e2 e3 => ?_⟩, fun y c' e => ?_, I.free, I.freeC, fun p hp => ?_, tracked ⟨oc, hoc, I.freeC x c hc⟩ hs, by simpa using I.len⟩ ⟨c, hs, .inr hc⟩
    · exact (hs.2 b (Nat.ne_of_lt (Nat.lt_of_lt_of_le (Heap.lt_size e) (I.ok.cab x c hfn hc)))).trans (I.base.keep b o e n hb hx)
    · obtain ⟨sl, e1⟩ := I.base.slot b o e n hb hx
      exact ⟨sl, (hs.2 b (Nat.ne_of_lt (Nat.lt_of_lt_of_le (Heap.lt_size e) (I.ok.cab x c hfn hc)))).trans e1⟩
    · obtain ⟨o', e1⟩ := I.base.there b o e hx
      exact ⟨o', (hs.2 b (Nat.ne_of_lt (Nat.lt_of_lt_of_le (Heap.lt_size e) (I.ok.cab x c hfn hc)))).trans e1⟩
    · by_cases hj : j = i
      · subst hj
        rw [hi] at e1; cases e1
        rw [List.getElem?_set_self hiσ] at e2
        cases e2
        exact ⟨u, r, .inr ⟨.inl hk, c, hc, hc'⟩⟩
      · rw [List.getElem?_set_ne (Ne.symm hj)] at e2
        obtain ⟨u', r', q⟩ := hl j y v' e1 e2 e3
        refine ⟨u', r', ?_⟩
        rcases q with q | ⟨k, c', e, z'⟩
        · exact .inl q
        · refine .inr ⟨k, c', e, z'.sameBut hs ?_⟩
          rintro rfl
          exact hj (nodup_ix hN e1 (I.ok.inj _ _ _ e hc ▸ hi))
    · by_cases hcc : c' = c
      · subst hcc; exact ⟨_, hc'⟩
      · obtain ⟨w2, z2⟩ := I.cell y c' e
        exact ⟨w2, z2.sameBut hs hcc⟩
    · obtain ⟨e, n, ne, nf, d⟩ := I.pin p hp
      refine ⟨(hs.2 p.1 ?_).trans e, n, ne, nf, d⟩
      intro q
      rw [q, hoc] at e
      have q' : oc = p.2 := Option.some.inj e
      exact d w' (by rw [← q']; exact hocd)
theorem store_ok {M : Model} {A : Around} {E : Value → Shared → Prop} {i : Nat} {x : Str} {v : V} {u : Value} {Q : Unit → Shared → Prop} (I : Inv X pins σ H s) (hN : X.N.Nodup) (hi : X.N[i]? = some x) (hx : Loc X.env.scope x) (r : RelV v u)
    (h : ∀ s', Inv X pins (σ.set i (some v)) H s' → Q () s') (hf : X.fn x = true ∨ X.env.scope.names.lookup x = some .local := by first | exact .inl rfl | exact .inr rfl | assumption) : wpAny M A (storeName X.env x u) Q E s :=
  store_ok2 I hN hi hx r (fun s' I' _ => h s' I') hf
theorem Inv.call' {s' : Shared} {ch : List Addr} (I : Inv X pins σ H s) (ho : s'.os = s.os) (u : Un (frs X.stack) ch H H' s.heap s'.heap) (hok : HOk X.prog X.w H' s'.heap) (hg : AllBare s'.gens)
    (hch : ∀ b ∈ ch, (b ∈ X.ex ∨ X.s₀.heap.objs.size ≤ b) ∧ b ≠ X.env.locals ∧ (∀ x c, X.env.cells.lookup x = some c → c ≠ b) ∧ ∀ p ∈ X.pn ++ pins, p.1 ≠ b) : Inv X pins σ H' s' := by
  obtain ⟨h', g', d', t', o'⟩ := s'
  have e : o' = s.os := ho
  subst e
  exact I.call (g' := g') (t' := t') (d' := d') u hok hg hch
end

abbrev XK := Value → Option Addr → Hp → Prop
abbrev St := List (Option V)
abbrev VK := V → Hp → Prop
abbrev TE := St → Hp → VK → Prop
abbrev TT := St → Hp → (Bool → Hp → Prop) → Prop
abbrev TA := St → Hp → (List V → Hp → Prop) → Prop
structure Ends where
  nx : St → Hp → Prop
  rt : VK
  bk : St → Hp → Prop := fun _ _ => False
  ct : St → Hp → Prop := fun _ _ => False
abbrev TS := Ends → St → Hp → Prop

def EP (X : Cx) (pins : List (Addr × Obj)) (σ : St) (Q : VK) (u : Value) (s' : Shared) : Prop := ∃ v H', Inv X pins σ H' s' ∧ RelV v u ∧ Q v H'
def TP (X : Cx) (pins : List (Addr × Obj)) (σ : St) (Q : Bool → Hp → Prop) (b : Bool) (s' : Shared) : Prop := ∃ H', Inv X pins σ H' s' ∧ Q b H'
def AP (X : Cx) (pins : List (Addr × Obj)) (σ : St) (Q : List V → Hp → Prop) (us : List Value) (s' : Shared) : Prop := ∃ vs H', Inv X pins σ H' s' ∧ Vals vs us ∧ Q vs H'
def SP (X : Cx) (pins : List (Addr × Obj)) (D : Ends) (f : Flow) (s' : Shared) : Prop :=
  match f with
  | .next => ∃ σ' H', Inv X pins σ' H' s' ∧ D.nx σ' H'
  | .brk => ∃ σ' H', Inv X pins σ' H' s' ∧ D.bk σ' H'
  | .cont => ∃ σ' H', Inv X pins σ' H' s' ∧ D.ct σ' H'
  | .ret u => ∃ v σ' H', Inv X pins σ' H' s' ∧ RelV v u ∧ D.rt v H'

def PE (X : Cx) (e : Expr) (t : TE) : Prop :=
  ∀ (pins : List (Addr × Obj)) (s : Shared) (σ : St) (H : Hp) (Q : VK), Inv X pins σ H s → t σ H Q → wpAny (model X.prog X.w) X.A (eval e X.env) (EP X pins σ Q) X.xe s
def PT (X : Cx) (e : Expr) (t : TT) : Prop :=
  ∀ (pins : List (Addr × Obj)) (s : Shared) (σ : St) (H : Hp) (Q : Bool → Hp → Prop), Inv X pins σ H s → t σ H Q → wpAny (model X.prog X.w) X.A (isTrue e X.env (eval e X.env)) (TP X pins σ Q) X.xe s
def PW (X : Cx) (e : Expr) (t : TT) : Prop :=
  ∀ (whole : Sem Value) (pins : List (Addr × Obj)) (s : Shared) (σ : St) (H : Hp) (Q : Bool → Hp → Prop), Inv X pins σ H s → t σ H Q → wpAny (model X.prog X.w) X.A (isTrue e X.env whole) (TP X pins σ Q) X.xe s
theorem PW.pt {X : Cx} {e : Expr} {t : TT} (h : PW X e t) : PT X e t := h _
def PA (X : Cx) (es : List Expr) (t : TA) : Prop :=
  ∀ (pos : Pos) (pins : List (Addr × Obj)) (s : Shared) (σ : St) (H : Hp) (Q : List V → Hp → Prop), Inv X pins σ H s → t σ H Q → wpAny (model X.prog X.w) X.A (spliced (backTo pos (starEach es X.env))) (AP X pins σ Q) X.xe s
def PS (X : Cx) (st : Stmt) (t : TS) : Prop :=
  ∀ (pins : List (Addr × Obj)) (s : Shared) (σ : St) (H : Hp) (D : Ends), Inv X pins σ H s → t D σ H → wpAny (model X.prog X.w) X.A (exec st X.env) (SP X pins D) X.xe s
def PSs (X : Cx) (st : List Stmt) (t : TS) : Prop :=
  ∀ (pins : List (Addr × Obj)) (s : Shared) (σ : St) (H : Hp) (D : Ends), Inv X pins σ H s → t D σ H → wpAny (model X.prog X.w) X.A (execs st X.env) (SP X pins D) X.xe s
theorem thn {α : Type} {t : Sem α} {Q Q' : α → Shared → Prop} {M : Model} {A : Around} {E : Value → Shared → Prop} {s : Shared} (h : wpAny M A t Q E s) (hQ : ∀ a s, Q a s → Q' a s) : wpAny M A t Q' E s := wpAny_mono h hQ fun _ _ x => x
end L2

namespace L2
open PySem PySem.Spec PyProof.Rows
section
variable {X : Cx}

def tVar (i : Nat) : TE := fun σ H Q => ∃ v, σ[i]? = some (some v) ∧ Q v H
def tC (v : V) : TE := fun _ H Q => Q v H
theorem pe_var {i : Nat} {x : Str} {pos : Pos} (hN : X.N[i]? = some x) (hv : Vis X.env.scope x) (hd : (x == ("__debug__" : Str)) = false := by decide) (hcd : (x == ("__classdict__" : Str)) = false := by decide) : PE X (.Name x pos) (tVar i) := by
  intro pins s σ H Q I h
  obtain ⟨v, e, h⟩ := h
  obtain ⟨m, hn, hl⟩ := I.loc
  obtain ⟨u, r, l⟩ := hl i x v hN e hv
  have fin : EP X pins σ Q u s := ⟨v, H, I, r, h⟩
  rcases l with ⟨hk, hm⟩ | ⟨hk, c, hc, hcell⟩
  · exact wpAny_Name (wpAny_loadName_local I.ok.kind hk hn hm fin) hd
  · rcases hk with hk | hk
    · exact wpAny_Name (wpAny_loadName_cell I.ok.kind hk hc hcell fin) hd
    · exact wpAny_Name (wpAny_loadName_free I.ok.kind hk hc hcell fin hcd) hd
theorem pe_int {i j pos} : PE X (.Constant (.int i) j pos) (tC (.int i)) := fun _ _ _ H _ I h => wpAny_Constant_int ⟨.int i, H, I.tok _, ⟨_, rfl⟩, h⟩
theorem pe_bl {b j pos} : PE X (.Constant (.bool b) j pos) (tC (.bl b)) := fun _ _ _ H _ I h => Constant_bool ⟨.bl b, H, I, rfl, h⟩
theorem pe_str {x j pos} : PE X (.Constant (.str x) j pos) (tC (.str x)) := fun _ _ _ H _ I h => Calls.Constant_str ⟨.str x, H, I.tok _, ⟨_, rfl⟩, h⟩

def Gl (X : Cx) (x : Str) : Prop := X.env.kindOf x = some .globalImplicit
theorem ld_glob {E : Value → Shared → Prop} {pins : List (Addr × Obj)} {s : Shared} {σ : St} {H : Hp} {x : Str} {u : Value} {pos : Pos} {Q : Value → Shared → Prop} (I : Inv X pins σ H s) (hg : Gl X x) (hm : X.mg x = some u) (h : Q u s)
    (hd : (x == ("__debug__" : Str)) = false := by decide) : wpAny (model X.prog X.w) X.A (eval (.Name x pos) X.env) Q E s :=
  Calls.Name_function_global I.ok.kind hg (Calls.loadGlobal_global (by rw [I.ok.glob]; exact I.mod.glob.keeps I.bk) hm h) hd
theorem ld_blt {E : Value → Shared → Prop} {pins : List (Addr × Obj)} {s : Shared} {σ : St} {H : Hp} {x : Str} {u : Value} {pos : Pos} {Q : Value → Shared → Prop} (I : Inv X pins σ H s) (hg : Gl X x) (hm : X.mg x = none) (hv : bootBuiltins x = some u) (h : Q u s)
    (hn : x ≠ "__name__" := by decide) (hd : (x == ("__debug__" : Str)) = false := by decide) : wpAny (model X.prog X.w) X.A (eval (.Name x pos) X.env) Q E s := by
  obtain ⟨mb, h1, h2⟩ := I.mod.blt
  exact Calls.Name_function_global I.ok.kind hg (Calls.loadGlobal_builtin (by rw [I.ok.glob]; exact I.mod.glob.keeps I.bk) hm (by rw [I.ok.blt]; exact h1.keeps I.bk) ((h2 x hn).trans hv) h) hd
theorem pe_glob {x : Str} {v : V} {u : Value} {pos : Pos} (hg : Gl X x) (hm : X.mg x = some u) (r : RelV v u) (hd : (x == ("__debug__" : Str)) = false := by decide) : PE X (.Name x pos) (tC v) :=
  fun _ _ _ H _ I h => ld_glob I hg hm ⟨v, H, I, r, h⟩ hd
theorem pe_bltn {x : Str} {v : V} {u : Value} {pos : Pos} (hg : Gl X x) (hm : X.mg x = none) (hv : bootBuiltins x = some u) (r : RelV v u) (hn : x ≠ "__name__" := by decide) (hd : (x == ("__debug__" : Str)) = false := by decide) : PE X (.Name x pos) (tC v) :=
  fun _ _ _ H _ I h => ld_blt I hg hm hv ⟨v, H, I, r, h⟩ hn hd

variable {a b : Expr} {ta tb : TE} {pos : Pos}
def tB (t : TE) : TT := fun σ H Q => t σ H fun x H1 => ∃ c, x = .bl c ∧ Q c H1
theorem pt_val {e : Expr} {t : TE} (h : PE X e t) (he : ∀ whole, isTrue e X.env whole = (do let v ← whole; standAt e.pos; holding [v] (truthy v)) := by intro _; rfl) : PT X e (tB t) := by
  intro pins s σ H Q I hw
  refine isTrue_plain (thn (h pins s σ H _ I hw) fun v s1 ⟨x, H1, I1, r1, q1⟩ => ?_) (he _)
  obtain ⟨d, rfl, q⟩ := q1
  cases r1
  exact wpAny_truthy_bool ⟨H1, I1, q⟩

variable {tA tB' : TT} {rest : List Expr}
def tAnd (t u : TT) : TT := fun σ H Q => t σ H fun c H1 => if c = true then u σ H1 Q else Q false H1
def tOr (t u : TT) : TT := fun σ H Q => t σ H fun c H1 => if c = true then Q true H1 else u σ H1 Q
def tNot (t : TT) : TT := fun σ H Q => t σ H fun c H1 => Q (!c) H1
theorem pw_and1 (ha : PT X a tA) : PW X (.BoolOp .And [a] pos) tA := by
  intro wh pins s σ H Q I h
  refine isTrue_and (thn (ha pins s σ H Q I h) fun c s1 e => ?_)
  cases c with
  | true => exact isTrue_and_nil e
  | false => exact e
theorem pw_or1 (ha : PT X a tA) : PW X (.BoolOp .Or [a] pos) tA := by
  intro wh pins s σ H Q I h
  refine isTrue_or (thn (ha pins s σ H Q I h) fun c s1 e => ?_)
  cases c with
  | false => exact isTrue_or_nil e
  | true => exact e
theorem pw_and (ha : PT X a tA) (hb : PW X (.BoolOp .And (b :: rest) pos) tB') : PW X (.BoolOp .And (a :: b :: rest) pos) (tAnd tA tB') := by
  intro wh pins s σ H Q I h
  refine isTrue_and (thn (ha pins s σ H _ I h) fun c s1 ⟨H1, I1, q1⟩ => ?_)
  cases c with
  | true => exact hb wh pins s1 σ H1 Q I1 q1
  | false => exact ⟨H1, I1, q1⟩
theorem pw_or (ha : PT X a tA) (hb : PW X (.BoolOp .Or (b :: rest) pos) tB') : PW X (.BoolOp .Or (a :: b :: rest) pos) (tOr tA tB') := by
  intro wh pins s σ H Q I h
  refine isTrue_or (thn (ha pins s σ H _ I h) fun c s1 ⟨H1, I1, q1⟩ => ?_)
  cases c with
  | true => exact ⟨H1, I1, q1⟩
  | false => exact hb wh pins s1 σ H1 Q I1 q1
theorem pt_not (ha : PT X a tA) : PT X (.UnaryOp .Not a pos) (tNot tA) := by
  intro pins s σ H Q I h
  exact isTrue_not (ha pins s σ H (fun c H1 => Q (!c) H1) I h)
def tAndV (ta tb : TE) : TE := fun σ H Q => ta σ H fun x H1 => ∃ c, x = .bl c ∧ if c = true then tb σ H1 Q else Q (.bl false) H1
def tNotV (ta : TE) : TE := fun σ H Q => ta σ H fun x H1 => ∃ c, x = .bl c ∧ Q (.bl (!c)) H1
theorem pe_one {op} {t : TE} (h : PE X a t) : PE X (.BoolOp op [a] pos) t := fun pins s σ H Q I hw => BoolOp_one (h pins s σ H Q I hw)
theorem pe_and (ha : PE X a ta) (hb : PE X (.BoolOp .And (b :: rest) pos) tb) : PE X (.BoolOp .And (a :: b :: rest) pos) (tAndV ta tb) := by
  intro pins s σ H Q I h
  refine BoolOp_and (thn (ha pins s σ H _ I h) fun v s1 ⟨x, H1, I1, r1, q1⟩ => ?_)
  obtain ⟨c, rfl, q1⟩ := q1
  cases r1
  refine wpAny_truthy_bool ?_
  cases c with
  | true => exact hb pins s1 σ H1 Q I1 q1
  | false => exact ⟨.bl false, H1, I1, rfl, q1⟩
theorem pe_not (ha : PE X a ta) : PE X (.UnaryOp .Not a pos) (tNotV ta) := by
  intro pins s σ H Q I h
  refine UnaryOp_ (thn (ha pins s σ H _ I h) fun v s1 ⟨x, H1, I1, r1, q1⟩ => ?_)
  obtain ⟨c, rfl, q1⟩ := q1
  cases r1
  exact not_of (wpAny_truthy_bool ⟨.bl (!c), H1, I1, rfl, q1⟩)
def tIf (t : TT) (ta tb : TE) : TE := fun σ H Q => t σ H fun c H1 => if c = true then ta σ H1 Q else tb σ H1 Q
theorem pe_ifExp {c : Expr} (hc : PT X c tA) (ha : PE X a ta) (hb : PE X b tb) : PE X (.IfExp c a b pos) (tIf tA ta tb) := by
  intro pins s σ H Q I h
  refine wpAny_IfExp (thn (hc pins s σ H _ I h) fun d s1 ⟨H1, I1, q1⟩ => ?_)
  cases d with
  | true => exact ha pins s1 σ H1 Q I1 q1
  | false => exact hb pins s1 σ H1 Q I1 q1
end
end L2

namespace L2
open PySem PySem.Spec PyProof.Rows

def SqL (K : PySem.W.Frag) (H : Hp) (a : Addr) (xs : List V) : Prop :=
  Rd H a (.lst xs) ∨
    ∃ (o : Obj) (its : Array Value) (n : Nat), K.lookup a = some o ∧ o.cls = .type "list" ∧ o.dict = none ∧ o.data = .seq its n ∧ its.size ≤ sizeLine ∧ Vals xs its.toList
def SqT (K : PySem.W.Frag) (H : Hp) (a : Addr) (xs : List V) : Prop :=
  Rd H a (.tup xs) ∨
    ∃ (o : Obj) (its : Array Value) (n : Nat), K.lookup a = some o ∧ o.cls = .type "tuple" ∧ o.data = .seq its n ∧ its.size ≤ sizeLine ∧ Vals xs its.toList
def absV : Value → Option V
  | .none => some .non
  | .bool b => some (.bl b)
  | .int i _ => some (.int i)
  | .str x _ => some (.str x)
  | .bytes b _ => some (.byt b)
  | .float b _ => some (.flt b)
  | .ref a => some (.ref a)
  | .type n => some (.ty n)
  | _ => none
theorem RelV.abs {x : V} {u : Value} (r : RelV x u) : absV u = some x := by
  cases x with
  | non => cases r; rfl
  | bl _ => cases r; rfl
  | int _ => obtain ⟨t, rfl⟩ := r; rfl
  | str _ => obtain ⟨t, rfl⟩ := r; rfl
  | byt _ => obtain ⟨t, rfl⟩ := r; rfl
  | flt _ => obtain ⟨t, rfl⟩ := r; rfl
  | ref _ => cases r; rfl
  | ty _ => cases r; rfl
theorem RelV.inj {x y : V} {u : Value} (r : RelV x u) (q : RelV y u) : x = y := Option.some.inj (r.abs.symm.trans q.abs)
theorem Vals.inj : ∀ {xs ys : List V} {us : List Value}, Vals xs us → Vals ys us → xs = ys
  | _, _, _, .nil, .nil => rfl
  | _, _, _, .cons r t, .cons r' t' => by rw [r.inj r', Vals.inj t t']
section
variable {X : Cx} {pins : List (Addr × Obj)} {σ : St} {H : Hp} {s : Shared} {a : Addr} {xs ys : List V}
theorem SqL.of {K : PySem.W.Frag} (h : H a = some (.lst xs)) : SqL K H a xs := .inl (.inl h)
theorem SqT.of {K : PySem.W.Frag} (h : H a = some (.tup xs)) : SqT K H a xs := .inl (.inl h)
theorem Inv.list (I : Inv X pins σ H s) (h : SqL X.K H a xs) : ∃ its : List Value, Vals xs its ∧ PlainL s.heap a its.toArray ∧ xs.length ≤ sizeLine := by
  rcases h with h | ⟨o, its, n, hk, hc, hd, hs, hz, r⟩
  · obtain ⟨z, its, n, r, e⟩ := h.ok I.hok
    exact ⟨its, r, ⟨_, n, e, rfl, rfl, rfl⟩, z⟩
  · refine ⟨its.toList, r, ⟨o, n, I.kIn a o hk, hc, hd, by simpa using hs⟩, ?_⟩
    have e := r.length
    simp only [Array.length_toList] at e
    omega
theorem Inv.tuple (I : Inv X pins σ H s) (h : SqT X.K H a xs) : ∃ its : List Value, Vals xs its ∧ IsTup s.heap a its.toArray ∧ xs.length ≤ sizeLine := by
  rcases h with h | ⟨o, its, n, hk, hc, hs, hz, r⟩
  · obtain ⟨z, its, r, p⟩ := h.ok I.hok
    exact ⟨its, r, p.tup, z⟩
  · refine ⟨its.toList, r, ⟨o, I.kIn a o hk, hc, n, by simpa using hs⟩, ?_⟩
    have e := r.length
    simp only [Array.length_toList] at e
    omega
theorem Inv.list_inj (I : Inv X pins σ H s) (h : SqL X.K H a xs) (h' : SqL X.K H a ys) : xs = ys := by
  obtain ⟨its, r, ⟨o, n, e, _, _, d⟩, _⟩ := I.list h
  obtain ⟨its', r', ⟨o', n', e', _, _, d'⟩, _⟩ := I.list h'
  rw [e] at e'; cases e'
  rw [d] at d'
  injection d' with d1 _
  have : its = its' := by simpa using congrArg Array.toList d1
  subst this
  exact r.inj r'
theorem Inv.tuple_inj (I : Inv X pins σ H s) (h : SqT X.K H a xs) (h' : SqT X.K H a ys) : xs = ys := by
  obtain ⟨its, r, ⟨o, e, _, n, d⟩, _⟩ := I.tuple h
  obtain ⟨its', r', ⟨o', e', _, n', d'⟩, _⟩ := I.tuple h'
  rw [e] at e'; cases e'
  rw [d] at d'
  injection d' with d1 _
  have : its = its' := by simpa using congrArg Array.toList d1
  subst this
  exact r.inj r'
end

abbrev Cx.wish (X : Cx) (E : Value → Shared → Prop) : Cx := { X with xe := E }
abbrev Cx.nox (X : Cx) : Cx := X.wish fun _ _ => False
theorem Cx.Ok.wish {X : Cx} (ok : X.Ok) (E : Value → Shared → Prop) : (X.wish E).Ok :=
  ⟨ok.mod, ok.kind, ok.glob, ok.blt, ok.above, ok.inj, ok.has, ok.cab, ok.hd, ok.frames, ok.stk, ok.exf, ok.bs, ok.bsz, ok.noex, ok.exfs, ok.funs, ok.frf⟩
theorem Cx.Ok.unwish {X : Cx} {E : Value → Shared → Prop} (ok : (X.wish E).Ok) : X.Ok :=
  ⟨ok.mod, ok.kind, ok.glob, ok.blt, ok.above, ok.inj, ok.has, ok.cab, ok.hd, ok.frames, ok.stk, ok.exf, ok.bs, ok.bsz, ok.noex, ok.exfs, ok.funs, ok.frf⟩
section
variable {X : Cx} {pins : List (Addr × Obj)} {σ : St} {H : Hp} {s : Shared} {E : Value → Shared → Prop}
theorem Inv.wish (I : Inv X pins σ H s) (E : Value → Shared → Prop) : Inv (X.wish E) pins σ H s := ⟨I.ok.wish E, I.os, I.bare, I.base, I.loc, I.cell, I.free, I.freeC, I.pin, I.hok, I.len⟩
theorem Inv.unwish (I : Inv (X.wish E) pins σ H s) : Inv X pins σ H s := ⟨I.ok.unwish, I.os, I.bare, I.base, I.loc, I.cell, I.free, I.freeC, I.pin, I.hok, I.len⟩
theorem SP.unwish {D : Ends} {f : Flow} {s' : Shared} (h : SP (X.wish E) pins D f s') : SP X pins D f s' := by
  cases f with
  | next => obtain ⟨σ', H', I, q⟩ := h; exact ⟨σ', H', I.unwish, q⟩
  | brk => obtain ⟨σ', H', I, q⟩ := h; exact ⟨σ', H', I.unwish, q⟩
  | cont => obtain ⟨σ', H', I, q⟩ := h; exact ⟨σ', H', I.unwish, q⟩
  | ret u => obtain ⟨v, σ', H', I, r, q⟩ := h; exact ⟨v, σ', H', I.unwish, r, q⟩
theorem PSs.nox {st : List Stmt} {t : TS} (h : PSs X.nox st t) : PSs X st t := fun pins s σ H D I hw =>
  wpAny_mono (h pins s σ H D (I.wish _) hw) (fun _ _ q => q.unwish) fun _ _ z => False.elim z
end

section
variable {X : Cx} {st : Stmt} {rest : List Stmt} {t u : TS} {e : Expr} {te : TE} {pos : Pos}
def tNext : TS := fun D σ H => D.nx σ H
def tSeq (t u : TS) : TS := fun D σ H => t { D with nx := u D } σ H
theorem pss_nil : PSs X [] tNext := fun _ _ σ H _ I h => wpAny_execs_nil ⟨σ, H, I, h⟩
theorem pss_cons (h1 : PS X st t) (h2 : PSs X rest u) : PSs X (st :: rest) (tSeq t u) := by
  intro pins s σ H D I h
  refine wpAny_execs_cons (thn (h1 pins s σ H { D with nx := u D } I h) fun f s1 q => ?_)
  cases f with
  | next =>
    obtain ⟨σ', H', I', q⟩ := q
    exact h2 pins s1 σ' H' D I' q
  | ret v => exact q
  | brk => exact q
  | cont => exact q
theorem pss_one (h1 : PS X st t) : PSs X [st] t := by
  intro pins s σ H D I h
  refine wpAny_execs_cons (thn (h1 pins s σ H D I h) fun f s1 q => ?_)
  cases f with
  | next => exact wpAny_execs_nil q
  | ret v => exact q
  | brk => exact q
  | cont => exact q
theorem Inv.quiet {pins : List (Addr × Obj)} {σ : St} {H : Hp} {s : Shared} (I : Inv X pins σ H s) : interactive X.env = false := by simp [interactive, I.ok.kind]
def tDrop (te : TE) : TS := fun D σ H => te σ H fun _ H1 => D.nx σ H1
theorem ps_expr (he : PE X e te) (hs : swapsWith e none pos.line X.env = pure false := by rfl) : PS X (.Expr e pos) (tDrop te) := by
  intro pins s σ H D I h
  exact wpAny_Expr_any (thn (he pins s σ H _ I h) fun v s1 ⟨x, H1, I1, r1, q1⟩ => ⟨σ, H1, I1, q1⟩) I.quiet hs
def tRet (te : TE) : TS := fun D σ H => te σ H D.rt
theorem ps_ret (he : PE X e te) : PS X (.Return (some e) pos) (tRet te) := by
  intro pins s σ H D I h
  exact wpAny_Return_some (thn (he pins s σ H _ I h) fun v s1 ⟨x, H1, I1, r1, q1⟩ => ⟨x, σ, H1, I1, r1, q1⟩)
def tIfS (c : TT) (t u : TS) : TS := fun D σ H => c σ H fun b H1 => if b = true then t D σ H1 else u D σ H1
theorem ps_if {c : Expr} {a b : List Stmt} {tc : TT} (hc : PT X c tc) (ha : PSs X a t) (hb : PSs X b u) : PS X (.If c a b pos) (tIfS tc t u) := by
  intro pins s σ H D I h
  refine wpAny_If (thn (hc pins s σ H _ I h) fun d s1 ⟨H1, I1, q1⟩ => ?_)
  cases d with
  | true => exact ha pins s1 σ H1 D I1 q1
  | false => exact hb pins s1 σ H1 D I1 q1
def tNever : TS := fun _ _ _ => False
theorem pss_never {sts : List Stmt} : PSs X sts tNever := fun _ _ _ _ _ _ h => h.elim
end

abbrev TG := V → St → Hp → (St → Hp → Prop) → Prop
abbrev TGs := List V → St → Hp → (St → Hp → Prop) → Prop
def PG (X : Cx) (target : Expr) (t : TG) : Prop :=
  ∀ (pins : List (Addr × Obj)) (s : Shared) (σ : St) (H : Hp) (v : V) (u : Value) (Q : St → Hp → Prop), Inv X pins σ H s → RelV v u → t v σ H Q →
    wpAny (model X.prog X.w) X.A (assign target X.env u) (fun _ s' => ∃ σ' H', Inv X pins σ' H' s' ∧ Q σ' H') X.xe s
def PGs (X : Cx) (ts : List Expr) (t : TGs) : Prop :=
  ∀ (pins : List (Addr × Obj)) (s : Shared) (σ : St) (H : Hp) (vs : List V) (us : List Value) (Q : St → Hp → Prop), Inv X pins σ H s → Vals vs us → t vs σ H Q →
    wpAny (model X.prog X.w) X.A (assignInOrder ((assignEach ts X.env).map (·.2)) us) (fun _ s' => ∃ σ' H', Inv X pins σ' H' s' ∧ Q σ' H') X.xe s
section
variable {X : Cx} {pos : Pos}
def gName (i : Nat) : TG := fun v σ H Q => Q (σ.set i (some v)) H
theorem pg_name {i : Nat} {x : Str} (hN : X.N.Nodup) (hi : X.N[i]? = some x) (hx : Loc X.env.scope x) (hf : X.fn x = true ∨ X.env.scope.names.lookup x = some .local := by first | exact .inl rfl | exact .inr rfl | assumption) : PG X (.Name x pos) (gName i) := by
  intro pins s σ H v u Q I r h
  exact wpAny_assign_Name (store_ok I hN hi hx r (fun s' I' => ⟨_, H, I', h⟩) hf)
def gNil : TGs := fun vs σ H Q => vs = [] ∧ Q σ H
def gCons (t : TG) (u : TGs) : TGs := fun vs σ H Q => ∃ v r, vs = v :: r ∧ t v σ H fun σ' H' => u r σ' H' Q
theorem pgs_nil : PGs X [] gNil := by
  intro pins s σ H vs us Q I r h
  obtain ⟨e, h⟩ := h
  subst e
  cases r
  exact assignInOrder_nil ⟨σ, H, I, h⟩
theorem pgs_cons {e : Expr} {es : List Expr} {t : TG} {u : TGs} (h1 : PG X e t) (h2 : PGs X es u)
    (hs : (assignEach (e :: es) X.env).map (·.2) = assign e X.env :: (assignEach es X.env).map (·.2) := by rfl) : PGs X (e :: es) (gCons t u) := by
  intro pins s σ H vs us Q I r h
  obtain ⟨v, vr, e1, h⟩ := h
  subst e1
  cases r with
  | cons r rr =>
    rw [hs]
    refine assignInOrder_cons (thn (h1 pins s σ H _ _ _ I r h) fun _ s1 ⟨σ1, H1, I1, q1⟩ => ?_)
    exact h2 pins s1 σ1 H1 _ _ Q I1 rr q1
def gTup (K : PySem.W.Frag) (n : Nat) (t : TGs) : TG := fun v σ H Q => ∃ a xs, v = .ref a ∧ SqT K H a xs ∧ xs.length = n ∧ t xs σ H Q
theorem pg_tup {es : List Expr} {k : Nat} {t : TGs} {n : Nat} (hc : X.calm = true) (h : PGs X es t)
    (hn : (assignEach es X.env).length = n := by rfl) (hst : (assignEach es X.env).findIdx? (·.1) = none := by rfl) : PG X (.Tuple es k pos) (gTup X.K n t) := by
  intro pins s σ H v u Q I r hw
  obtain ⟨a, xs, e1, hq, hl, hw⟩ := hw
  subst e1
  cases r
  obtain ⟨its, rv, ht, hz⟩ := I.tuple hq
  refine assign_Tuple_tuple (I.ok.hd hc) ht (by simp [hn, ← hl, rv.length]) hst fun h' hx => ?_
  have I1 : Inv X pins σ H { s with heap := h' } := I.kept (t' := s.toks) fun b o e => hx b o (Nat.ne_of_lt (Heap.lt_size e)) e
  exact h pins _ σ H xs _ Q I1 (by simpa using rv) hw
def tAsg (te : TE) (g : TG) : TS := fun D σ H => te σ H fun x H1 => g x σ H1 D.nx
theorem ps_set {i : Nat} {x : Str} {e : Expr} {te : TE} {pos' : Pos} (hN : X.N.Nodup) (hi : X.N[i]? = some x) (hx : Loc X.env.scope x) (he : PE X e te) (hs : swapsWith e (some (.Name x pos')) pos.line X.env = pure false := by rfl) (hf : X.fn x = true ∨ X.env.scope.names.lookup x = some .local := by first | exact .inl rfl | exact .inr rfl | assumption) :
    PS X (.Assign [.Name x pos'] e pos) (tAsg te (gName i)) := by
  intro pins s σ H D I h
  refine wpAny_Assign_Name (thn (he pins s σ H _ I h) fun v s1 ⟨y, H1, I1, r1, q1⟩ => ?_) hs
  exact store_ok I1 hN hi hx r1 (fun s2 I2 => ⟨_, H1, I2, q1⟩) hf
end

section
variable {X : Cx} {pos : Pos}
def tWhile (c : TT) (tb : TS) : TS := fun D σ H => ∃ W : Nat → St → Hp → Prop, (∃ m, W m σ H) ∧ ∀ m σ H, W m σ H →
  c σ H fun b H1 => if b = true then ∃ N : St → Hp → Prop, (∀ σ' H', N σ' H' → ∃ m', m' < m ∧ W m' σ' H') ∧ tb { D with nx := N, ct := N, bk := D.nx } σ H1 else D.nx σ H1
theorem ps_while {c : Expr} {body : List Stmt} {tc : TT} {tb : TS} (hp : PassesOwn (model X.prog X.w) X.A X.env X.xe) (hc : PT X c tc) (hb : PSs X body tb) : PS X (.While c body [] pos) (tWhile tc tb) := by
  intro pins s σ H D I h
  obtain ⟨W, ⟨m0, w0⟩, turn⟩ := h
  refine wpAny_While (codeAny_whileLoop (fun n s' => ∃ σ' H', Inv X pins σ' H' s' ∧ W n σ' H') ?_ m0 ⟨σ, H, I, w0⟩)
  rintro n s1 ⟨σ1, H1, I1, w1⟩
  refine wpAny_passesOwn hp (thn (hc pins s1 σ1 H1 _ I1 (turn n σ1 H1 w1)) fun b s2 ⟨H2, I2, q2⟩ => ?_)
  cases b with
  | true =>
    obtain ⟨N, hN, q2⟩ := q2
    rw [if_pos rfl]
    refine wpAny_passesOwn hp (thn (hb pins s2 σ1 H2 _ I2 q2) fun f s3 q3 => ?_)
    cases f with
    | next =>
      obtain ⟨σ3, H3, I3, n3⟩ := q3
      obtain ⟨m', hm, w3⟩ := hN σ3 H3 n3
      exact ⟨m', hm, σ3, H3, I3, w3⟩
    | cont =>
      obtain ⟨σ3, H3, I3, n3⟩ := q3
      obtain ⟨m', hm, w3⟩ := hN σ3 H3 n3
      exact ⟨m', hm, σ3, H3, I3, w3⟩
    | brk => exact q3
    | ret v => exact q3
  | false =>
    rw [if_neg Bool.false_ne_true]
    exact wpAny_execs_nil ⟨σ1, H2, I2, q2⟩
end

structure It where
  go : Nat → Hp → Prop
  yld : Nat → Hp → V → Hp → Prop
  stop : Nat → Hp → Prop
def FpOk (X : Cx) (pins : List (Addr × Obj)) (H : Hp) (b : Addr) : Prop :=
  H b = none ∧ b ≠ X.env.locals ∧ b ∉ X.fs ∧ (b ∈ X.ex ∨ X.s₀.heap.objs.size ≤ b) ∧ (∀ x c, X.env.cells.lookup x = some c → c ≠ b) ∧ ∀ p ∈ X.pn ++ pins, p.1 ≠ b
theorem Inv.fpOk {X : Cx} {pins : List (Addr × Obj)} {σ : St} {H H' : Hp} {s : Shared} {b : Addr} (I : Inv X pins σ H s) (hb : s.heap.objs.size ≤ b) (hn : H' b = none) : FpOk X pins H' b := by
  refine ⟨hn, Nat.ne_of_gt (Nat.lt_of_lt_of_le I.lt hb), I.nofs hb, .inr (Nat.le_trans I.sz hb), fun x c e z => ?_, fun p hp z => ?_⟩
  · obtain ⟨v, q⟩ := I.cell x c e
    exact absurd (Nat.lt_of_lt_of_le q.lt (by rw [z]; exact hb)) (Nat.lt_irrefl _)
  · exact absurd (Nat.lt_of_lt_of_le (Heap.lt_size (I.pin p hp).1) (by rw [z]; exact hb)) (Nat.lt_irrefl _)
structure Turn (P : Program) (w : World) (K : PySem.W.Frag) (tg : Expr) (J : It) (fp : List Addr) (it : Addr) (tn : Nat → Heap → Prop) : Prop where
  mem : it ∈ fp
  obj : ∀ i h, tn i h → ∀ b ∈ fp, ∃ o, h.get? b = some o ∧ ∀ v, o.data ≠ .cell v
  keep : ∀ i h h', tn i h → (∀ b ∈ fp, ∀ o, h.get? b = some o → h'.get? b = some o) → tn i h'
  item : ∀ (X : Cx), X.prog = P → X.w = w → X.K = K → X.calm = true → ∀ (i : Nat) (pins : List (Addr × Obj)) (s : Shared) (σ : St) (H : Hp) (E : Value → Shared → Prop), Inv X pins σ H s → (∀ b ∈ fp, FpOk X pins H b) → tn i s.heap → J.go i H →
    wpAny (model P w) X.A (pyNext (.ref it)) (fun r s1 => ∃ u, r = some u ∧
      wpAny (model P w) X.A (letOwnedTupleGo tg (.ref it) u) (fun _ s2 => ∃ x H', Inv X pins σ H' s2 ∧ RelV x u ∧ J.yld i H x H' ∧ tn (i + 1) s2.heap ∧ ∀ b ∈ fp, H' b = none) E s1) E s
  done : ∀ (X : Cx), X.prog = P → X.w = w → X.K = K → X.calm = true → ∀ (i : Nat) (pins : List (Addr × Obj)) (s : Shared) (σ : St) (H : Hp) (E : Value → Shared → Prop), Inv X pins σ H s → (∀ b ∈ fp, FpOk X pins H b) → tn i s.heap → J.stop i H →
    wpAny (model P w) X.A (pyNext (.ref it)) (fun r s1 => r = none ∧ Inv X pins σ H s1) E s
  self : ∀ (A : Around) (i : Nat) (s : Shared) (Q : Value → Shared → Prop) (E : Value → Shared → Prop), tn i s.heap → Q (.ref it) s → wpAny (model P w) A (pyIter (.ref it)) Q E s
abbrev TI := St → Hp → (It → Hp → Prop) → Prop
def PIE (X : Cx) (pins : List (Addr × Obj)) (σ : St) (tg : Expr) (R : It → Hp → Prop) (itv : Value) (s2 : Shared) : Prop :=
  ∃ (it : Addr) (fp : List Addr) (tn : Nat → Heap → Prop) (J : It) (H' : Hp), itv = .ref it ∧ Inv X pins σ H' s2 ∧ Turn X.prog X.w X.K tg J fp it tn ∧ tn 0 s2.heap ∧ (∀ b ∈ fp, FpOk X pins H' b) ∧ R J H'
def PI (X : Cx) (tg iter : Expr) (wi : TI) : Prop :=
  ∀ (pins : List (Addr × Obj)) (s : Shared) (σ : St) (H : Hp) (R : It → Hp → Prop), Inv X pins σ H s → wi σ H R →
    wpAny (model X.prog X.w) X.A (eval iter X.env) (fun v s1 => wpAny (model X.prog X.w) X.A (pyIter v) (PIE X pins σ tg R) X.xe s1) X.xe s

theorem go_of {M : Model} {A : Around} {E : Value → Shared → Prop} {s : Shared} {tg : Expr} {it : Addr} {u : Value} {o : Obj} {n : String} {vs : Array Value} {Q : Unit → Shared → Prop} (ho : s.heap.get? it = some o) (hc : o.cls = .type n) (hd : o.data = .fields vs)
    (hn : ["enumerate", "zip", "dict_itemiterator", "dict_reverseitemiterator", "odict_iterator", "itertools.zip_longest", "itertools.pairwise"].contains n = false) (hQ : Q () s) : wpAny M A (letOwnedTupleGo tg (.ref it) u) Q E s := by
  unfold letOwnedTupleGo
  cases tg <;> first
    | exact wpAny_pure hQ
    | (cases u <;> first
        | exact wpAny_pure hQ
        | (refine wpAny_bind (wpAny_load ho ?_)
           rw [hc, hd]
           show wpAny M A (if (["enumerate", "zip", "dict_itemiterator", "dict_reverseitemiterator", "odict_iterator", "itertools.zip_longest", "itertools.pairwise"].contains n && vs[0]? == some (rawInt _)) = true then _ else _) Q E s
           rw [if_neg (by intro h; rw [hn, Bool.false_and] at h; cases h)]
           exact wpAny_pure hQ))

def Itl (K : PySem.W.Frag) (a : Addr) : It :=
  ⟨fun i H => ∃ xs x, SqL K H a xs ∧ xs[i]? = some x, fun i H x H' => H' = H ∧ ∀ xs, SqL K H a xs → xs[i]? = some x, fun i H => ∃ xs, SqL K H a xs ∧ xs.length ≤ i⟩
def Itt (K : PySem.W.Frag) (a : Addr) : It :=
  ⟨fun i H => ∃ xs x, SqT K H a xs ∧ xs[i]? = some x, fun i H x H' => H' = H ∧ ∀ xs, SqT K H a xs → xs[i]? = some x, fun i H => ∃ xs, SqT K H a xs ∧ xs.length ≤ i⟩
def Itr (lo : Int) (n : Nat) : It := ⟨fun i _ => i < n, fun i H x H' => H' = H ∧ x = .int (lo + i), fun i _ => n ≤ i⟩
theorem turn_list {P : Program} {w : World} {K : PySem.W.Frag} {tg : Expr} (a it : Addr) : Turn P w K tg (Itl K a) [it] it (fun i h => h.IsListIter it a i) where
  mem := by simp
  obj := fun i h st b hb => by
    have e : b = it := by simpa using hb
    subst e
    obtain ⟨o, e, c, d⟩ := st
    exact ⟨o, e, fun v z => by rw [d] at z; cases z⟩
  keep := fun i h h' st k => st.at fun o e => k it (by simp) o e
  item := by
    intro X hP hw hK hc i pins s σ H E I hf st hg
    subst hP hw hK
    obtain ⟨xs, x, hq, hx⟩ := hg
    obtain ⟨its, rv, p, hz⟩ := I.list hq
    obtain ⟨u, hu, ru⟩ := rv.get hx
    obtain ⟨f0, f1, f2, f3, f4, f5⟩ := hf it (by simp)
    refine wpAny_pyNext_list_item st p.isList (x := u) (by simpa using hu) fun h' st' sb => ?_
    have I1 : Inv X pins σ H { s with heap := h' } := I.turned (t' := s.toks) (fun b o hb e => (sb.2 b hb).trans e) f0 f1 f3 f4 f5
    obtain ⟨o, e, c, d⟩ := id st'
    exact ⟨u, rfl, go_of (s := { s with heap := h' }) e c d (by decide) ⟨x, H, I1, ru, ⟨rfl, fun ys hy => by rw [I.list_inj hy hq]; exact hx⟩, st', fun b hb => (hf b hb).1⟩⟩
  done := by
    intro X hP hw hK hc i pins s σ H E I hf st hg
    subst hP hw hK
    obtain ⟨xs, hq, hx⟩ := hg
    obtain ⟨its, rv, p, hz⟩ := I.list hq
    obtain ⟨f0, f1, f2, f3, f4, f5⟩ := hf it (by simp)
    have hl := rv.length
    exact wpAny_pyNext_list_end (I.ok.hd hc) st p.isList (by simp; omega) fun h' eb => ⟨rfl, I.turned (t' := s.toks) (fun b o hb e => eb b o hb e) f0 f1 f3 f4 f5⟩
  self := fun _ _ _ _ _ st h => wpAny_pyIter_listiter st h
theorem turn_tuple {P : Program} {w : World} {K : PySem.W.Frag} {tg : Expr} (a it : Addr) : Turn P w K tg (Itt K a) [it] it (fun i h => h.IsTupleIter it a i) where
  mem := by simp
  obj := fun i h st b hb => by
    have e : b = it := by simpa using hb
    subst e
    obtain ⟨o, e, c, d⟩ := st
    exact ⟨o, e, fun v z => by rw [d] at z; cases z⟩
  keep := fun i h h' st k => st.at fun o e => k it (by simp) o e
  item := by
    intro X hP hw hK hc i pins s σ H E I hf st hg
    subst hP hw hK
    obtain ⟨xs, x, hq, hx⟩ := hg
    obtain ⟨its, rv, p, hz⟩ := I.tuple hq
    obtain ⟨u, hu, ru⟩ := rv.get hx
    obtain ⟨f0, f1, f2, f3, f4, f5⟩ := hf it (by simp)
    refine wpAny_pyNext_tuple_item st (show s.heap.IsTuple a its.toArray from p) (x := u) (by simpa using hu) fun h' st' sb => ?_
    have I1 : Inv X pins σ H { s with heap := h' } := I.turned (t' := s.toks) (fun b o hb e => (sb.2 b hb).trans e) f0 f1 f3 f4 f5
    obtain ⟨o, e, c, d⟩ := id st'
    exact ⟨u, rfl, go_of (s := { s with heap := h' }) e c d (by decide) ⟨x, H, I1, ru, ⟨rfl, fun ys hy => by rw [I.tuple_inj hy hq]; exact hx⟩, st', fun b hb => (hf b hb).1⟩⟩
  done := by
    intro X hP hw hK hc i pins s σ H E I hf st hg
    subst hP hw hK
    obtain ⟨xs, hq, hx⟩ := hg
    obtain ⟨its, rv, p, hz⟩ := I.tuple hq
    obtain ⟨f0, f1, f2, f3, f4, f5⟩ := hf it (by simp)
    have hl := rv.length
    exact wpAny_pyNext_tuple_end (I.ok.hd hc) st (show s.heap.IsTuple a its.toArray from p) (by simp; omega) fun h' eb => ⟨rfl, I.turned (t' := s.toks) (fun b o hb e => eb b o hb e) f0 f1 f3 f4 f5⟩
  self := fun _ _ _ _ _ st h => wpAny_pyIter_tupleiter st h
theorem turn_range {P : Program} {w : World} {K : PySem.W.Frag} {tg : Expr} (it : Addr) (lo : Int) (n : Nat) : Turn P w K tg (Itr lo n) [it] it (fun i h => IsRangeIter h it (lo + (i : Nat) * 1) ((n : Int) - (i : Nat)) 1) where
  mem := by simp
  obj := fun i h st b hb => by
    have e : b = it := by simpa using hb
    subst e
    exact ⟨_, st, fun v z => by
      have z' : Data.fields _ = Data.cell v := z
      cases z'⟩
  keep := fun i h h' st k => k it (by simp) _ st
  item := by
    intro X hP hw hK hc i pins s σ H E I hf st hg
    subst hP hw hK
    obtain ⟨f0, f1, f2, f3, f4, f5⟩ := hf it (by simp)
    have W := Walks.range (prog := X.prog) (w := X.w) (I.ok.hd hc) it lo 1 n
    refine W.item i s _ _ hg st fun v h' tk hv st' kk => ?_
    obtain ⟨t, rfl⟩ := hv
    have I1 : Inv X pins σ H { s with heap := h', toks := tk } := I.turned (fun b o hb e => kk b o (by simpa using hb) e) f0 f1 f3 f4 f5
    refine ⟨_, rfl, go_of (s := { s with heap := h', toks := tk }) (n := "range_iterator") st' rfl rfl (by decide) ⟨.int (lo + i), H, I1, ⟨t, ?_⟩, ⟨rfl, rfl⟩, st', fun b hb => (hf b hb).1⟩⟩
    rw [Int.mul_one]
  done := by
    intro X hP hw hK hc i pins s σ H E I hf st hg
    subst hP hw hK
    obtain ⟨f0, f1, f2, f3, f4, f5⟩ := hf it (by simp)
    exact wpAny_pyNext_range_end (I.ok.hd hc) st (by have : n ≤ i := hg; omega) fun h' eb => ⟨rfl, I.turned (t' := s.toks) (fun b o hb e => eb b o hb e) f0 f1 f3 f4 f5⟩
  self := fun _ _ _ _ _ st h => wpAny_pyIter_rangeiter st h
end L2

namespace L2
open PySem PySem.Spec PyProof.Rows
section
variable {X : Cx} {tg : Expr}
def iList (K : PySem.W.Frag) (tl : TE) : TI := fun σ H R => tl σ H fun x H1 => ∃ a, x = .ref a ∧ (∃ xs, SqL K H1 a xs) ∧ R (Itl K a) H1
def iTup (K : PySem.W.Frag) (tl : TE) : TI := fun σ H R => tl σ H fun x H1 => ∃ a, x = .ref a ∧ (∃ xs, SqT K H1 a xs) ∧ R (Itt K a) H1
theorem pi_list {l : Expr} {tl : TE} (hl : PE X l tl) : PI X tg l (iList X.K tl) := by
  intro pins s σ H R I h
  refine thn (hl pins s σ H _ I h) fun v s1 ⟨x, H1, I1, r1, q1⟩ => ?_
  obtain ⟨a, e, ⟨xs, hq⟩, q⟩ := q1
  subst e
  cases r1
  obtain ⟨its, rv, p, hz⟩ := I1.list hq
  refine wpAny_pyIter_list p.isList ?_
  refine ⟨s1.heap.objs.size, [s1.heap.objs.size], _, _, H1, rfl, I1.kept (t' := s1.toks) fun b o e => Heap.get?_push_of_some _ e, turn_list a _, ⟨_, Heap.get?_push_size _ rfl, rfl, rfl⟩, fun b hb => ?_, q⟩
  have e : b = s1.heap.objs.size := by simpa using hb
  subst e
  exact I1.fpOk (Nat.le_refl _) (I1.hok.fresh (Nat.le_refl _))
theorem pi_tup {l : Expr} {tl : TE} (hl : PE X l tl) : PI X tg l (iTup X.K tl) := by
  intro pins s σ H R I h
  refine thn (hl pins s σ H _ I h) fun v s1 ⟨x, H1, I1, r1, q1⟩ => ?_
  obtain ⟨a, e, ⟨xs, hq⟩, q⟩ := q1
  subst e
  cases r1
  obtain ⟨its, rv, p, hz⟩ := I1.tuple hq
  refine wpAny_pyIter_tuple (show s1.heap.IsTuple a its.toArray from p) ?_
  refine ⟨s1.heap.objs.size, [s1.heap.objs.size], _, _, H1, rfl, I1.kept (t' := s1.toks) fun b o e => Heap.get?_push_of_some _ e, turn_tuple a _, ⟨_, Heap.get?_push_size _ rfl, rfl, rfl⟩, fun b hb => ?_, q⟩
  have e : b = s1.heap.objs.size := by simpa using hb
  subst e
  exact I1.fpOk (Nat.le_refl _) (I1.hok.fresh (Nat.le_refl _))
theorem range_it {pins : List (Addr × Obj)} {σ : St} {H : Hp} {s : Shared} {R : It → Hp → Prop} {E : Value → Shared → Prop} {lo hi : Int} {t u v : Tok} {tk : Nat} (I : Inv X pins σ H s) (h1 : -(2 ^ 62) ≤ lo) (h2 : lo < 2 ^ 62) (h3 : -(2 ^ 62) ≤ hi) (h4 : hi < 2 ^ 62)
    (q : R (Itr lo (hi - lo).toNat) H) : wpAny (model X.prog X.w) X.A (pyIter (.ref s.heap.objs.size)) (PIE X pins σ tg R) E { s with heap := s.heap.push { cls := .type "range", data := .fields #[.int lo t, .int hi u, .int 1 v] }, toks := tk } := by
  refine wpAny_pyIter_range (IsRange.new ..) (small_one h1 h2 h3 h4) ?_
  have I1 : Inv X pins σ H { s with heap := s.heap.push { cls := .type "range", data := .fields #[.int lo t, .int hi u, .int 1 v] }, toks := tk } := I.kept fun b o e => Heap.get?_push_of_some _ e
  refine ⟨(s.heap.push { cls := .type "range", data := .fields #[.int lo t, .int hi u, .int 1 v] }).objs.size, [(s.heap.push { cls := .type "range", data := .fields #[.int lo t, .int hi u, .int 1 v] }).objs.size], _, _, H, rfl,
    I1.kept (t' := tk) fun b o e => Heap.get?_push_of_some _ e, turn_range _ lo (hi - lo).toNat, ?_, fun b hb => ?_, q⟩
  · have e1 : lo + ((0 : Nat) : Int) * 1 = lo := by simp
    have e2 : (((hi - lo).toNat : Nat) : Int) - ((0 : Nat) : Int) = Builtin.Range.rangeSize lo hi 1 := by rw [rangeSize_one]; split <;> omega
    show IsRangeIter _ _ (lo + ((0 : Nat) : Int) * 1) ((((hi - lo).toNat : Nat) : Int) - ((0 : Nat) : Int)) 1
    rw [e1, e2]
    exact Heap.get?_push_size _ rfl
  · have e : b = (s.heap.push { cls := .type "range", data := .fields #[.int lo t, .int hi u, .int 1 v] }).objs.size := by simpa using hb
    subst e
    exact I1.fpOk (Nat.le_refl _) (I1.hok.fresh (Nat.le_refl _))
def iRng1 (ta : TA) : TI := fun σ H R => ta σ H fun vs H1 => ∃ j : Int, vs = [.int j] ∧ -(2 ^ 62) ≤ j ∧ j < 2 ^ 62 ∧ R (Itr 0 j.toNat) H1
theorem pi_range1 {a : Expr} {ta : TA} {p pos : Pos} (hg : Gl X "range") (hm : X.mg "range" = none) (ha : PA X [a] ta) (hs : starEach [a] X.env = [(false, eval a X.env)] := by rfl) : PI X tg (.Call (.Name "range" p) [a] [] pos) (iRng1 ta) := by
  intro pins s σ H R I h
  refine Call_ (ld_blt I hg hm boot_range (PyProof.Rows.callWith_type1 (thn (ha pos pins s σ H _ I h) fun us s1 ⟨vs, H1, I1, r1, q1⟩ => ?_) hs rfl))
  obtain ⟨j, e, q1, q2, q⟩ := q1
  subst e
  cases r1 with
  | cons r rr =>
    cases rr
    obtain ⟨t, rfl⟩ := r
    exact call_range_1 (range_it I1 (by omega) (by omega) q1 q2 (by simpa using q))
def tFor (wi : TI) (g : TG) (tb : TS) : TS := fun D σ H => wi σ H fun J H1 => ∃ W : Nat → Nat → St → Hp → Prop, (∃ m, W 0 m σ H1) ∧ ∀ i m σ H, W i m σ H →
  (J.stop i H ∧ D.nx σ H) ∨ (J.go i H ∧ ∃ N : St → Hp → Prop, (∀ σ' H', N σ' H' → ∃ m', m' < m ∧ W (i + 1) m' σ' H') ∧ ∀ x H', J.yld i H x H' → g x σ H' fun σ2 H2 => tb { D with nx := N, ct := N, bk := D.nx } σ2 H2)
def pinsAt (fp : List Addr) (h : Heap) : List (Addr × Obj) := fp.filterMap fun b => (h.get? b).map fun o => (b, o)
theorem mem_pinsAt {fp : List Addr} {h : Heap} {b : Addr} {o : Obj} (hb : b ∈ fp) (e : h.get? b = some o) : (b, o) ∈ pinsAt fp h := List.mem_filterMap.mpr ⟨b, hb, by rw [e]; rfl⟩
theorem of_pinsAt {fp : List Addr} {h : Heap} {p : Addr × Obj} (hp : p ∈ pinsAt fp h) : p.1 ∈ fp ∧ h.get? p.1 = some p.2 := by
  obtain ⟨b, hb, e⟩ := List.mem_filterMap.mp hp
  cases q : h.get? b with
  | none => rw [q] at e; cases e
  | some o =>
    rw [q] at e
    have e' : (b, o) = p := Option.some.inj e
    subst e'
    exact ⟨hb, q⟩
theorem Inv.pinned {pins : List (Addr × Obj)} {σ : St} {H : Hp} {s : Shared} {fp : List Addr} (I : Inv X pins σ H s) (hf : ∀ b ∈ fp, FpOk X pins H b) (ho : ∀ b ∈ fp, ∃ o, s.heap.get? b = some o ∧ ∀ v, o.data ≠ .cell v) : Inv X (pins ++ pinsAt fp s.heap) σ H s :=
  I.pins_of fun p hp => (List.mem_append.mp hp).elim (fun z => I.pin p (List.mem_append_right _ z)) fun z => by
    obtain ⟨hb, e⟩ := of_pinsAt z
    obtain ⟨f0, f1, f2, _⟩ := hf p.1 hb
    obtain ⟨o, e', d⟩ := ho p.1 hb
    rw [e] at e'; cases e'
    exact ⟨e, f0, f1, f2, d⟩
theorem Inv.unpinned {pins pl : List (Addr × Obj)} {σ : St} {H : Hp} {s : Shared} (I : Inv X (pins ++ pl) σ H s) : Inv X pins σ H s := I.pins_of fun p hp => I.pin p (List.mem_append_right _ (List.mem_append_left _ hp))
theorem ps_for {iter : Expr} {body : List Stmt} {wi : TI} {g : TG} {tb : TS} {pos : Pos} (hp : PassesOwn (model X.prog X.w) X.A X.env X.xe) (hc : X.calm = true) (hi : PI X tg iter wi) (hg : PG X tg g) (hb : PSs X body tb)
    (hs : ∀ x, foldedSetIterable iter X.env x = pure x := by intro _; rfl) : PS X (.For tg iter body [] pos) (tFor wi g tb) := by
  intro pins s σ H D I h
  refine wpAny_For (thn (hi pins s σ H _ I h) fun v s1 h1 => thn h1 fun itv s2 h2 => ?_) hs
  obtain ⟨it, fp, tn, J, H2, e, I2, T, st2, f2, W, ⟨m0, w0⟩, turn⟩ := h2
  subst e
  -- what stays true of the iterator's objects through the loop
  have stat : ∀ {H' : Hp}, (∀ b ∈ fp, H' b = none) → ∀ b ∈ fp, FpOk X pins H' b := fun hn b hb => ⟨hn b hb, (f2 b hb).2⟩
  refine codeAny_forLoop_any (fun n s' => ∃ i σ' H', Inv X pins σ' H' s' ∧ tn i s'.heap ∧ (∀ b ∈ fp, H' b = none) ∧ W i n σ' H') ?_ m0 ⟨0, σ, H2, I2, st2, fun b hb => (f2 b hb).1, w0⟩
  rintro n s3 ⟨i, σ3, H3, I3, st3, fr3, w3⟩
  rcases turn i n σ3 H3 w3 with ⟨stop, qn⟩ | ⟨go, N, hN, step⟩
  · refine wpAny_passesOwn hp (thn (T.done X rfl rfl rfl hc i pins s3 σ3 H3 X.xe I3 (stat fr3) st3 stop) fun r s4 ⟨hr, I4⟩ => ?_)
    subst hr
    exact wpAny_execs_nil ⟨σ3, H3, I4, qn⟩
  · refine wpAny_passesOwn hp (thn (T.item X rfl rfl rfl hc i pins s3 σ3 H3 X.xe I3 (stat fr3) st3 go) fun r s4 ⟨u, hr, h4⟩ => ?_)
    subst hr
    refine wpAny_passesOwn hp (thn h4 fun _ s5 ⟨x, H5, I5, r5, y5, st5, fr5⟩ => ?_)
    have I5' := I5.pinned (stat fr5) (T.obj _ _ st5)
    refine wpAny_passesOwn hp (thn (hg _ s5 σ3 H5 x u _ I5' r5 (step x H5 y5)) fun _ s6 ⟨σ6, H6, I6, q6⟩ => ?_)
    refine wpAny_passesOwn hp (thn (hb _ s6 σ6 H6 _ I6 q6) fun f s7 q7 => ?_)
    have again : ∀ {σ7 : St} {H7 : Hp}, Inv X (pins ++ pinsAt fp s5.heap) σ7 H7 s7 → N σ7 H7 → ∃ m, m < n ∧ ∃ i σ' H', Inv X pins σ' H' s7 ∧ tn i s7.heap ∧ (∀ b ∈ fp, H' b = none) ∧ W i m σ' H' := fun {σ7 H7} I7 n7 => by
      obtain ⟨m', hm, w7⟩ := hN σ7 H7 n7
      refine ⟨m', hm, i + 1, σ7, H7, I7.unpinned, T.keep _ _ _ st5 fun b hb o e => (I7.pin (b, o) (List.mem_append_right _ (List.mem_append_right _ (mem_pinsAt hb e)))).1, fun b hb => ?_, w7⟩
      obtain ⟨o, e, d⟩ := T.obj _ _ st5 b hb
      exact (I7.pin (b, o) (List.mem_append_right _ (List.mem_append_right _ (mem_pinsAt hb e)))).2.1
    cases f with
    | next => obtain ⟨σ7, H7, I7, n7⟩ := q7; exact again I7 n7
    | cont => obtain ⟨σ7, H7, I7, n7⟩ := q7; exact again I7 n7
    | brk => obtain ⟨σ7, H7, I7, q7⟩ := q7; exact ⟨σ7, H7, I7.unpinned, q7⟩
    | ret v => obtain ⟨x7, σ7, H7, I7, r7, q7⟩ := q7; exact ⟨x7, σ7, H7, I7.unpinned, r7, q7⟩
end

theorem for_list {K : PySem.W.Frag} {a : Addr} {xs : List V} {g : TG} {tb : TS} {D : Ends} {σ : St} {H : Hp} (Pv : Nat → St → Hp → Prop) (h0 : Pv 0 σ H) (hl : ∀ i σ H, i ≤ xs.length → Pv i σ H → SqL K H a xs)
    (hs : ∀ i x σ H, xs[i]? = some x → Pv i σ H → g x σ H fun σ2 H2 => tb { D with nx := Pv (i + 1), ct := Pv (i + 1), bk := D.nx } σ2 H2) (hd : ∀ σ H, Pv xs.length σ H → D.nx σ H) :
    ∃ W : Nat → Nat → St → Hp → Prop, (∃ m, W 0 m σ H) ∧ ∀ i m σ H, W i m σ H →
      ((Itl K a).stop i H ∧ D.nx σ H) ∨ ((Itl K a).go i H ∧ ∃ N : St → Hp → Prop, (∀ σ' H', N σ' H' → ∃ m', m' < m ∧ W (i + 1) m' σ' H') ∧ ∀ x H', (Itl K a).yld i H x H' → g x σ H' fun σ2 H2 => tb { D with nx := N, ct := N, bk := D.nx } σ2 H2) := by
  refine ⟨fun i m σ H => m = xs.length - i ∧ i ≤ xs.length ∧ Pv i σ H, ⟨xs.length, by simp, Nat.zero_le _, h0⟩, ?_⟩
  rintro i m σ H ⟨rfl, hi, p⟩
  have q := hl i σ H hi p
  by_cases hlt : i < xs.length
  · refine .inr ⟨⟨xs, xs[i], q, by simp [hlt]⟩, Pv (i + 1), fun σ' H' p' => ⟨xs.length - (i + 1), by omega, rfl, hlt, p'⟩, fun x H' y => ?_⟩
    obtain ⟨e, y⟩ := y
    subst e
    exact hs i x σ _ (y xs q) p
  · have e : i = xs.length := by omega
    subst e
    exact .inl ⟨⟨xs, q, Nat.le_refl _⟩, hd σ H p⟩
theorem for_tup {K : PySem.W.Frag} {a : Addr} {xs : List V} {g : TG} {tb : TS} {D : Ends} {σ : St} {H : Hp} (Pv : Nat → St → Hp → Prop) (h0 : Pv 0 σ H) (hl : ∀ i σ H, i ≤ xs.length → Pv i σ H → SqT K H a xs)
    (hs : ∀ i x σ H, xs[i]? = some x → Pv i σ H → g x σ H fun σ2 H2 => tb { D with nx := Pv (i + 1), ct := Pv (i + 1), bk := D.nx } σ2 H2) (hd : ∀ σ H, Pv xs.length σ H → D.nx σ H) :
    ∃ W : Nat → Nat → St → Hp → Prop, (∃ m, W 0 m σ H) ∧ ∀ i m σ H, W i m σ H →
      ((Itt K a).stop i H ∧ D.nx σ H) ∨ ((Itt K a).go i H ∧ ∃ N : St → Hp → Prop, (∀ σ' H', N σ' H' → ∃ m', m' < m ∧ W (i + 1) m' σ' H') ∧ ∀ x H', (Itt K a).yld i H x H' → g x σ H' fun σ2 H2 => tb { D with nx := N, ct := N, bk := D.nx } σ2 H2) := by
  refine ⟨fun i m σ H => m = xs.length - i ∧ i ≤ xs.length ∧ Pv i σ H, ⟨xs.length, by simp, Nat.zero_le _, h0⟩, ?_⟩
  rintro i m σ H ⟨rfl, hi, p⟩
  have q := hl i σ H hi p
  by_cases hlt : i < xs.length
  · refine .inr ⟨⟨xs, xs[i], q, by simp [hlt]⟩, Pv (i + 1), fun σ' H' p' => ⟨xs.length - (i + 1), by omega, rfl, hlt, p'⟩, fun x H' y => ?_⟩
    obtain ⟨e, y⟩ := y
    subst e
    exact hs i x σ _ (y xs q) p
  · have e : i = xs.length := by omega
    subst e
    exact .inl ⟨⟨xs, q, Nat.le_refl _⟩, hd σ H p⟩
theorem for_range {lo : Int} {n : Nat} {g : TG} {tb : TS} {D : Ends} {σ : St} {H : Hp} (Pv : Nat → St → Hp → Prop) (h0 : Pv 0 σ H)
    (hs : ∀ i σ H, i < n → Pv i σ H → g (.int (lo + i)) σ H fun σ2 H2 => tb { D with nx := Pv (i + 1), ct := Pv (i + 1), bk := D.nx } σ2 H2) (hd : ∀ σ H, Pv n σ H → D.nx σ H) :
    ∃ W : Nat → Nat → St → Hp → Prop, (∃ m, W 0 m σ H) ∧ ∀ i m σ H, W i m σ H →
      ((Itr lo n).stop i H ∧ D.nx σ H) ∨ ((Itr lo n).go i H ∧ ∃ N : St → Hp → Prop, (∀ σ' H', N σ' H' → ∃ m', m' < m ∧ W (i + 1) m' σ' H') ∧ ∀ x H', (Itr lo n).yld i H x H' → g x σ H' fun σ2 H2 => tb { D with nx := N, ct := N, bk := D.nx } σ2 H2) := by
  refine ⟨fun i m σ H => m = n - i ∧ i ≤ n ∧ Pv i σ H, ⟨n, by simp, Nat.zero_le _, h0⟩, ?_⟩
  rintro i m σ H ⟨rfl, hi, p⟩
  by_cases hlt : i < n
  · refine .inr ⟨hlt, Pv (i + 1), fun σ' H' p' => ⟨n - (i + 1), by omega, rfl, hlt, p'⟩, fun x H' y => ?_⟩
    obtain ⟨e, y⟩ := y
    subst e y
    exact hs i σ _ hlt p
  · have e : i = n := by omega
    subst e
    exact .inl ⟨Nat.le_refl _, hd σ H p⟩
end L2

namespace L2
open PySem PySem.Spec PyProof.Rows

abbrev R2 := V → V → Hp → VK → Prop
def OpR (X : Cx) (f : Value → Value → Sem Value) (r : R2) : Prop :=
  ∀ (pins : List (Addr × Obj)) (s : Shared) (σ : St) (H : Hp) (x y : V) (v u : Value) (Q : VK), Inv X pins σ H s → RelV x v → RelV y u → r x y H Q →
    wpAny (model X.prog X.w) X.A (f v u) (EP X pins σ Q) X.xe s
def UnR (X : Cx) (f : Value → Sem Value) (r : V → Hp → VK → Prop) : Prop :=
  ∀ (pins : List (Addr × Obj)) (s : Shared) (σ : St) (H : Hp) (x : V) (v : Value) (Q : VK), Inv X pins σ H s → RelV x v → r x H Q →
    wpAny (model X.prog X.w) X.A (f v) (EP X pins σ Q) X.xe s
def CallR (X : Cx) (f : Value) (r : List V → Hp → VK → Prop) : Prop :=
  ∀ (pins : List (Addr × Obj)) (s : Shared) (σ : St) (H : Hp) (xs : List V) (us : List Value) (Q : VK), Inv X pins σ H s → Vals xs us → r xs H Q →
    wpAny (model X.prog X.w) X.A (call f us) (EP X pins σ Q) X.xe s
def TruR (X : Cx) (r : V → Hp → (Bool → Hp → Prop) → Prop) : Prop :=
  ∀ (pins : List (Addr × Obj)) (s : Shared) (σ : St) (H : Hp) (x : V) (v : Value) (Q : Bool → Hp → Prop), Inv X pins σ H s → RelV x v → r x H Q →
    wpAny (model X.prog X.w) X.A (truthy v) (TP X pins σ Q) X.xe s

def tOp (r : R2) (ta tb : TE) : TE := fun σ H Q => ta σ H fun x H1 => tb σ H1 fun y H2 => r x y H2 Q
def tUn (r : V → Hp → VK → Prop) (ta : TE) : TE := fun σ H Q => ta σ H fun x H1 => r x H1 Q
def rI (C : Int → Int → Prop) (g : Int → Int → V) : R2 := fun x y H Q => ∃ i j, x = .int i ∧ y = .int j ∧ C i j ∧ Q (g i j) H
def rI0 (g : Int → Int → V) : R2 := fun x y H Q => ∃ i j, x = .int i ∧ y = .int j ∧ Q (g i j) H
def rU (g : Int → V) : V → Hp → VK → Prop := fun x H Q => ∃ i, x = .int i ∧ Q (g i) H

section
variable {X : Cx} {a b c : Expr} {ta tb tc : TE} {pos : Pos}

theorem binT (ha : PE X a ta) (hb : PE X b tb) {pins : List (Addr × Obj)} {s : Shared} {σ : St} {H : Hp} {R : V → V → Hp → Prop} (I : Inv X pins σ H s)
    (h : ta σ H fun x H1 => tb σ H1 fun y H2 => R x y H2) {Q : Value → Shared → Prop} {f : Value → Value → Sem Value}
    (hf : ∀ v u s2 x y H2, Inv X pins σ H2 s2 → RelV x v → RelV y u → R x y H2 → wpAny (model X.prog X.w) X.A (f v u) Q X.xe s2) :
    wpAny (model X.prog X.w) X.A (eval a X.env) (fun v s₁ => wpAny (model X.prog X.w) X.A (eval b X.env) (fun u s₂ => wpAny (model X.prog X.w) X.A (f v u) Q X.xe s₂) X.xe s₁) X.xe s := by
  refine thn (ha pins s σ H _ I h) fun v s1 ⟨x, H1, I1, r1, q1⟩ => ?_
  refine thn (hb pins s1 σ H1 _ I1 q1) fun u s2 ⟨y, H2, I2, r2, q2⟩ => ?_
  exact hf v u s2 x y H2 I2 r1 r2 q2

theorem pe_op {op : Operator} {r : R2} (ho : OpR X (binaryOp op) r) (ha : PE X a ta) (hb : PE X b tb) : PE X (.BinOp a op b pos) (tOp r ta tb) := by
  intro pins s σ H Q I h
  exact wpAny_BinOp (binT ha hb I h fun v u s2 x y H2 I2 rx ry q => ho pins s2 σ H2 x y v u Q I2 rx ry q)
theorem pe_un {op : UnaryOp} {r : V → Hp → VK → Prop} (ho : UnR X (unaryOp op) r) (ha : PE X a ta) : PE X (.UnaryOp op a pos) (tUn r ta) := by
  intro pins s σ H Q I h
  exact UnaryOp_ (thn (ha pins s σ H _ I h) fun v s1 ⟨x, H1, I1, r1, q1⟩ => ho pins s1 σ H1 x v Q I1 r1 q1)
theorem opI {f : Value → Value → Sem Value} {C : Int → Int → Prop} {g : Int → Int → Int}
    (rule : ∀ (i j : Int) (t u : Tok) (s : Shared) (Q : Value → Shared → Prop) (E : Value → Shared → Prop), C i j → Q (.int (g i j) s.toks) { s with toks := s.toks + 1 } → wpAny (model X.prog X.w) X.A (f (.int i t) (.int j u)) Q E s) :
    OpR X f (rI C fun i j => .int (g i j)) := by
  intro pins s σ H x y v u Q I rx ry h
  obtain ⟨i, j, rfl, rfl, hc, q⟩ := h
  obtain ⟨t, rfl⟩ := rx
  obtain ⟨t', rfl⟩ := ry
  exact rule i j t t' s _ _ hc ⟨.int (g i j), H, I.tok _, ⟨_, rfl⟩, q⟩
theorem opI0 {f : Value → Value → Sem Value} {g : Int → Int → Int}
    (rule : ∀ (i j : Int) (t u : Tok) (s : Shared) (Q : Value → Shared → Prop) (E : Value → Shared → Prop), Q (.int (g i j) s.toks) { s with toks := s.toks + 1 } → wpAny (model X.prog X.w) X.A (f (.int i t) (.int j u)) Q E s) :
    OpR X f (rI0 fun i j => .int (g i j)) := by
  intro pins s σ H x y v u Q I rx ry h
  obtain ⟨i, j, rfl, rfl, q⟩ := h
  obtain ⟨t, rfl⟩ := rx
  obtain ⟨t', rfl⟩ := ry
  exact rule i j t t' s _ _ ⟨.int (g i j), H, I.tok _, ⟨_, rfl⟩, q⟩
theorem opB0 {f : Value → Value → Sem Value} {g : Int → Int → Bool}
    (rule : ∀ (i j : Int) (t u : Tok) (s : Shared) (Q : Value → Shared → Prop) (E : Value → Shared → Prop), Q (.bool (g i j)) s → wpAny (model X.prog X.w) X.A (f (.int i t) (.int j u)) Q E s) :
    OpR X f (rI0 fun i j => .bl (g i j)) := by
  intro pins s σ H x y v u Q I rx ry h
  obtain ⟨i, j, rfl, rfl, q⟩ := h
  obtain ⟨t, rfl⟩ := rx
  obtain ⟨t', rfl⟩ := ry
  exact rule i j t t' s _ _ ⟨.bl (g i j), H, I, rfl, q⟩

def CDiv (i j : Int) : Prop := 0 < j ∧ j < 1073741824
def CPow (i j : Int) : Prop := 0 ≤ j ∧ j ≤ 1000000 ∧ i.natAbs < 2 ^ 64
def CMul (i j : Int) : Prop := (-(2 ^ 64) < i ∧ i < 2 ^ 64) ∨ (-(2 ^ 64) < j ∧ j < 2 ^ 64)
theorem CMul.ok {i j : Int} (h : CMul i j) : IntMulOk i j := by
  rcases h with ⟨h1, h2⟩ | ⟨h1, h2⟩
  · exact .of_left (intBits_le_64 h1 h2)
  · exact .of_right (intBits_le_64 h1 h2)
theorem op_add : OpR X (binaryOp .Add) (rI0 fun i j => .int (i + j)) := opI0 fun _ _ _ _ _ _ _ q => add_int q
theorem op_mul : OpR X (binaryOp .Mult) (rI CMul fun i j => .int (i * j)) := opI fun _ _ _ _ _ _ _ hc q => mul_int q hc.ok
theorem op_fdiv : OpR X (binaryOp .FloorDiv) (rI CDiv fun i j => .int (i / j)) := opI fun i j _ _ _ _ _ hc q => by
  have h1 : (0 : Int) < j := hc.1
  have h2 : j < 1073741824 := hc.2
  exact floordiv_int (by omega) (by rw [Int.fdiv_eq_ediv_of_nonneg i (by omega)]; exact q) (.inl (PyProof.noPylong_small (by omega)))
theorem op_mod : OpR X (binaryOp .Mod) (rI (fun _ j => 0 < j) fun i j => .int (i % j)) := opI fun i j _ _ _ _ _ hc q => by
  have h1 : (0 : Int) < j := hc
  exact mod_int' (by omega) (by rw [Int.fmod_eq_emod_of_nonneg i (by omega)]; exact q)
theorem op_modN : OpR X (binaryOp .Mod) (rI (fun _ j => j ≠ 0) fun i j => .int (i.fmod j)) := opI fun _ _ _ _ _ _ _ hc q => mod_int' hc q
theorem op_pow : OpR X (binaryOp .Pow) (rI CPow fun i j => .int (i ^ j.toNat)) := opI fun _ _ _ _ _ _ _ hc q => pow_int_small hc.1 hc.2.1 hc.2.2 q
theorem unI {f : Value → Sem Value} {g : Int → Int}
    (rule : ∀ (i : Int) (t : Tok) (s : Shared) (Q : Value → Shared → Prop) (E : Value → Shared → Prop), Q (.int (g i) s.toks) { s with toks := s.toks + 1 } → wpAny (model X.prog X.w) X.A (f (.int i t)) Q E s) :
    UnR X f (rU fun i => .int (g i)) := by
  intro pins s σ H x v Q I rx h
  obtain ⟨i, rfl, q⟩ := h
  obtain ⟨t, rfl⟩ := rx
  exact rule i t s _ _ ⟨.int (g i), H, I.tok _, ⟨_, rfl⟩, q⟩
theorem un_neg : UnR X (unaryOp .USub) (rU fun i => .int (-i)) := unI fun _ _ _ _ _ q => neg_int q
end

def scal : V → V → Bool
  | .non, .non => true | .non, .int _ => true | .int _, .non => true | .non, .bl _ => true | .bl _, .non => true | .non, .str _ => true | .str _, .non => true
  | .int _, .int _ => true | .bl _, .bl _ => true | .str _, .str _ => true | .byt _, .byt _ => true
  | .int _, .str _ => true | .str _, .int _ => true | .bl _, .str _ => true | .str _, .bl _ => true
  | _, _ => false
def rEq : R2 := fun x y H Q => scal x y = true ∧ Q (.bl (decide (x = y))) H
def rNe : R2 := fun x y H Q => scal x y = true ∧ Q (.bl (!decide (x = y))) H

theorem dec_int {i j : Int} : decide (V.int i = V.int j) = (i == j) := by
  rw [Bool.eq_iff_iff]
  simp
theorem dec_bl {i j : Bool} : decide (V.bl i = V.bl j) = (i == j) := by
  rw [Bool.eq_iff_iff]
  simp
theorem dec_str {i j : Str} : decide (V.str i = V.str j) = (i == j) := by
  rw [Bool.eq_iff_iff]
  simp
theorem dec_byt {i j : Array UInt8} : decide (V.byt i = V.byt j) = (i.toList == j.toList) := by
  rw [Bool.eq_iff_iff]
  cases i
  cases j
  simp

section
variable {X : Cx} {a b c : Expr} {ta tb tc : TE} {pos : Pos}
theorem fin_bl {pins : List (Addr × Obj)} {σ : St} {H : Hp} {s : Shared} {Q : VK} {k k' : Bool} (I : Inv X pins σ H s) (q : Q (.bl k) H) (e : k = k') : EP X pins σ Q (.bool k') s := by
  subst e
  exact ⟨.bl k, H, I, rfl, q⟩
theorem op_eq : OpR X (compareOp .Eq) rEq := by
  intro pins s σ H x y v u Q I rx ry h
  obtain ⟨hs, q⟩ := h
  cases x with
  | non =>
    cases rx
    cases y with
    | non => cases ry; exact PySem.EqNone.eq_none_none (fin_bl I q (by simp))
    | bl j => cases ry; exact PySem.EqNone.eq_none_bool (fin_bl I q (by simp))
    | int j => obtain ⟨t', rfl⟩ := ry; exact PySem.EqNone.eq_none_int (fin_bl I q (by simp))
    | str j => obtain ⟨t', rfl⟩ := ry; exact PySem.EqNone.eq_none_str (fin_bl I q (by simp))
    | _ => exact absurd (show false = true from hs) Bool.false_ne_true
  | bl i =>
    cases rx
    cases y with
    | non => cases ry; exact PySem.EqNone.eq_bool_none (fin_bl I q (by simp))
    | bl j => cases ry; exact eq_bool (fin_bl I q dec_bl)
    | str j => obtain ⟨t', rfl⟩ := ry; exact PySem.EqMixed.eq_bool_str (fin_bl I q (by simp))
    | _ => exact absurd (show false = true from hs) Bool.false_ne_true
  | int i =>
    obtain ⟨t, rfl⟩ := rx
    cases y with
    | non => cases ry; exact PySem.EqNone.eq_int_none (fin_bl I q (by simp))
    | int j => obtain ⟨t', rfl⟩ := ry; exact eq_int (fin_bl I q dec_int)
    | str j => obtain ⟨t', rfl⟩ := ry; exact PySem.EqMixed.eq_int_str (fin_bl I q (by simp))
    | _ => exact absurd (show false = true from hs) Bool.false_ne_true
  | str i =>
    obtain ⟨t, rfl⟩ := rx
    cases y with
    | non => cases ry; exact PySem.EqNone.eq_str_none (fin_bl I q (by simp))
    | bl j => cases ry; exact PySem.EqMixed.eq_str_bool (fin_bl I q (by simp))
    | int j => obtain ⟨t', rfl⟩ := ry; exact PySem.EqMixed.eq_str_int (fin_bl I q (by simp))
    | str j => obtain ⟨t', rfl⟩ := ry; exact eq_str (fin_bl I q dec_str)
    | _ => exact absurd (show false = true from hs) Bool.false_ne_true
  | byt i =>
    obtain ⟨t, rfl⟩ := rx
    cases y with
    | byt j => obtain ⟨t', rfl⟩ := ry; exact PySem.W.eq_bytes (fin_bl I q dec_byt)
    | _ => exact absurd (show false = true from hs) Bool.false_ne_true
  | _ => cases y <;> exact absurd (show false = true from hs) Bool.false_ne_true
theorem op_ne : OpR X (compareOp .NotEq) rNe := by
  intro pins s σ H x y v u Q I rx ry h
  obtain ⟨hs, q⟩ := h
  cases x with
  | non =>
    cases rx
    cases y with
    | non => cases ry; exact PySem.EqNone.ne_none_none (fin_bl I q (by simp))
    | bl j => cases ry; exact PySem.EqNone.ne_none_bool (fin_bl I q (by simp))
    | int j => obtain ⟨t', rfl⟩ := ry; exact PySem.EqNone.ne_none_int (fin_bl I q (by simp))
    | str j => obtain ⟨t', rfl⟩ := ry; exact PySem.EqNone.ne_none_str (fin_bl I q (by simp))
    | _ => exact absurd (show false = true from hs) Bool.false_ne_true
  | bl i =>
    cases rx
    cases y with
    | non => cases ry; exact PySem.EqNone.ne_bool_none (fin_bl I q (by simp))
    | bl j => cases ry; exact ne_bool (fin_bl I q (congrArg not dec_bl))
    | str j => obtain ⟨t', rfl⟩ := ry; exact PySem.EqMixed.ne_bool_str (fin_bl I q (by simp))
    | _ => exact absurd (show false = true from hs) Bool.false_ne_true
  | int i =>
    obtain ⟨t, rfl⟩ := rx
    cases y with
    | non => cases ry; exact PySem.EqNone.ne_int_none (fin_bl I q (by simp))
    | int j => obtain ⟨t', rfl⟩ := ry; exact ne_int (fin_bl I q (congrArg not dec_int))
    | str j => obtain ⟨t', rfl⟩ := ry; exact PySem.EqMixed.ne_int_str (fin_bl I q (by simp))
    | _ => exact absurd (show false = true from hs) Bool.false_ne_true
  | str i =>
    obtain ⟨t, rfl⟩ := rx
    cases y with
    | non => cases ry; exact PySem.EqNone.ne_str_none (fin_bl I q (by simp))
    | bl j => cases ry; exact PySem.EqMixed.ne_str_bool (fin_bl I q (by simp))
    | int j => obtain ⟨t', rfl⟩ := ry; exact PySem.EqMixed.ne_str_int (fin_bl I q (by simp))
    | str j => obtain ⟨t', rfl⟩ := ry; exact ne_str (fin_bl I q (congrArg not dec_str))
    | _ => exact absurd (show false = true from hs) Bool.false_ne_true
  | byt i =>
    obtain ⟨t, rfl⟩ := rx
    cases y with
    | byt j => obtain ⟨t', rfl⟩ := ry; exact PySem.W.ne_bytes (fin_bl I q (congrArg not dec_byt))
    | _ => exact absurd (show false = true from hs) Bool.false_ne_true
  | _ => cases y <;> exact absurd (show false = true from hs) Bool.false_ne_true

theorem op_lt : OpR X (compareOp .Lt) (rI0 fun i j => .bl (decide (i < j))) := opB0 fun _ _ _ _ _ _ _ q => lt_int q
theorem op_gt : OpR X (compareOp .Gt) (rI0 fun i j => .bl (decide (j < i))) := opB0 fun _ _ _ _ _ _ _ q => gt_int q
theorem nomark (b : Expr) {op : CmpOp} (h : op ≠ .In := by decide) (h2 : op ≠ .NotIn := by decide) : behindInMarks op b = false := by
  have e1 : (op == CmpOp.In) = false := by cases op <;> first | rfl | exact absurd rfl h
  have e2 : (op == CmpOp.NotIn) = false := by cases op <;> first | rfl | exact absurd rfl h2
  cases b <;> simp [behindInMarks, e1, e2]
theorem pe_cmpR {op : CmpOp} {r : R2} (ho : OpR X (compareOp op) r) (ha : PE X a ta) (hb : PE X b tb) (hm : behindInMarks op b = false) : PE X (.Compare a [op] [b] pos) (tOp r ta tb) := by
  intro pins s σ H Q I h
  exact wpAny_Compare1 (binT ha hb I h fun v u s2 x y H2 I2 rx ry q => ho pins s2 σ H2 x y v u Q I2 rx ry q) hm
def tTest (t : TE) : TT := fun σ H Q => t σ H fun x H' => ∃ k, x = .bl k ∧ Q k H'
theorem pt_cmpR {op : CmpOp} {r : R2} (ho : OpR X (compareOp op) r) (ha : PE X a ta) (hb : PE X b tb) (hm : behindInMarks op b = false) : PT X (.Compare a [op] [b] pos) (tTest (tOp r ta tb)) := by
  intro pins s σ H Q I h
  refine wpAny_isTrue_Compare1 (thn (ha pins s σ H _ I h) fun v s1 ⟨x, H1, I1, r1, q1⟩ => thn (hb pins s1 σ H1 _ I1 q1) fun u s2 ⟨y, H2, I2, r2, q2⟩ =>
    thn (ho pins s2 σ H2 x y v u _ I2 r1 r2 q2) fun c s3 ⟨z, H3, I3, r3, k, e, q3⟩ => ?_) hm
  subst e
  cases r3
  exact wpAny_truthy_bool ⟨H3, I3, q3⟩
def TruV (K : PySem.W.Frag) (x : V) (H : Hp) (k : Bool) : Prop :=
  match x with
  | .non => k = false
  | .bl b => k = b
  | .int i => k = (i != 0)
  | .str y => y.length ≤ sizeLine ∧ k = ((y.length : Int) != 0)
  | .byt y => y.size ≤ sizeLine ∧ k = ((y.size : Int) != 0)
  | .ref p => (∃ xs, SqL K H p xs ∧ k = !xs.isEmpty) ∨ (∃ xs, SqT K H p xs ∧ k = !xs.isEmpty) ∨ ∃ kvs, H p = some (.dK kvs) ∧ k = !kvs.isEmpty
  | _ => False
theorem isEmpty_kv {κ : Type} {kvs : List (κ × V)} {vs : List (κ × Value)} (r : KV kvs vs) : (!vs.isEmpty) = !kvs.isEmpty := by
  cases r <;> rfl
theorem isEmpty_of {xs : List V} {its : List Value} (r : Vals xs its) : (!its.toArray.isEmpty) = !xs.isEmpty := by
  cases r <;> simp
theorem line63 : (sizeLine : Nat) < 2 ^ 63 := by rw [sizeLine_eq]; decide
theorem tru_ok : TruR X (fun x H Q => ∃ k, TruV X.K x H k ∧ Q k H) := by
  intro pins s σ H x v Q I rx h
  obtain ⟨k, e, q⟩ := h
  have hl := line63
  have hs : sizeLine = 16777216 := sizeLine_eq
  cases x with
  | non =>
    cases rx
    have e' : k = false := e
    subst e'
    exact truthy_none ⟨H, I, q⟩
  | bl b =>
    cases rx
    have e' : k = b := e
    subst e'
    exact wpAny_truthy_bool ⟨H, I, q⟩
  | int i =>
    obtain ⟨t, rfl⟩ := rx
    have e' : k = (i != 0) := e
    subst e'
    exact PySem.P.truthy_int ⟨H, I, q⟩
  | str y =>
    obtain ⟨t, rfl⟩ := rx
    obtain ⟨hy, e'⟩ : y.length ≤ sizeLine ∧ k = ((y.length : Int) != 0) := e
    subst e'
    exact PySem.P.truthy_str (by omega) ⟨H, I.tok _, q⟩
  | byt y =>
    obtain ⟨t, rfl⟩ := rx
    obtain ⟨hy, e'⟩ : y.size ≤ sizeLine ∧ k = ((y.size : Int) != 0) := e
    subst e'
    exact PySem.W.truthy_bytes (by omega) ⟨H, I.tok _, q⟩
  | ref p =>
    cases rx
    have e' : (∃ xs, SqL X.K H p xs ∧ k = !xs.isEmpty) ∨ (∃ xs, SqT X.K H p xs ∧ k = !xs.isEmpty) ∨ ∃ kvs, H p = some (.dK kvs) ∧ k = !kvs.isEmpty := e
    rcases e' with ⟨xs, hx, e'⟩ | ⟨xs, hx, e'⟩ | ⟨kvs, hx, e'⟩
    · subst e'
      obtain ⟨its, r, pl, hz⟩ := I.list hx
      have hlen := r.length
      exact wpAny_truthy_list pl.isList (by simp only [List.size_toArray]; omega) ⟨H, I.tok _, by rw [isEmpty_of r]; exact q⟩
    · subst e'
      obtain ⟨its, r, pl, hz⟩ := I.tuple hx
      have hlen := r.length
      exact truthy_tuple pl (by simp only [List.size_toArray]; omega) ⟨H, I.tok _, by rw [isEmpty_of r]; exact q⟩
    · subst e'
      obtain ⟨hz, hS, vs, r, m⟩ : kvs.length ≤ sizeLine ∧ (p == sysModules) = false ∧ ∃ vs, KV kvs vs ∧ s.heap.DictOf (mixKind X.prog X.w) p vs := I.hok p _ hx
      have hlen : kvs.length = vs.length := Paired.length r
      exact wpAny_truthy_dict hS m (by omega) ⟨H, I.tok _, by rw [isEmpty_kv r]; exact q⟩
  | _ => exact (show False from e).elim
theorem pt_truth (ha : PE X a ta) (he : ∀ whole, isTrue a X.env whole = (do let v ← whole; standAt a.pos; holding [v] (truthy v))) :
    PT X a (fun σ H Q => ta σ H fun x H' => ∃ k, TruV X.K x H' k ∧ Q k H') := by
  intro pins s σ H Q I h
  exact isTrue_plain (thn (ha pins s σ H _ I h) fun v s1 ⟨x, H1, I1, r1, q1⟩ => tru_ok pins s1 σ H1 x v Q I1 r1 q1) (he _)

theorem vals1 {x : V} {us : List Value} (r : Vals [x] us) : ∃ u, us = [u] ∧ RelV x u := by
  cases r with
  | cons r1 r2 => cases r2; exact ⟨_, rfl, r1⟩
theorem vals2 {x y : V} {us : List Value} (r : Vals [x, y] us) : ∃ u w', us = [u, w'] ∧ RelV x u ∧ RelV y w' := by
  cases r with
  | cons r1 r2 =>
    cases r2 with
    | cons r3 r4 => cases r4; exact ⟨_, _, rfl, r1, r3⟩
theorem call_abs : CallR X (.builtin "abs") (fun xs H Q => ∃ i, xs = [.int i] ∧ Q (.int (if i < 0 then -i else i)) H) := by
  intro pins s σ H xs us Q I r h
  obtain ⟨i, rfl, q⟩ := h
  obtain ⟨u, rfl, t, rfl⟩ := vals1 r
  exact call_abs_int fun u tk => ⟨.int (if i < 0 then -i else i), H, I.tok _, ⟨_, rfl⟩, q⟩
theorem call_int1 : CallR X (.type "int") (fun xs H Q => (∃ i, xs = [.int i] ∧ Q (.int i) H) ∨ ∃ k, xs = [.bl k] ∧ Q (.int (if k then 1 else 0)) H) := by
  intro pins s σ H xs us Q I r h
  rcases h with ⟨i, rfl, q⟩ | ⟨k, rfl, q⟩
  · obtain ⟨u, rfl, t, rfl⟩ := vals1 r
    exact call_int_int ⟨.int i, H, I, ⟨_, rfl⟩, q⟩
  · obtain ⟨u, rfl, r1⟩ := vals1 r
    cases r1
    exact call_int_bool ⟨.int (if k then 1 else 0), H, I.tok _, ⟨_, rfl⟩, q⟩
end
end L2

namespace L2
open PySem PySem.Spec PyProof.Rows

structure ObjM (h : Heap) (x dx C : Addr) (mA : Str → Option Value) : Prop where
  obj : h.get? x = some (PySem.W.instObj C dx)
  ns : h.Ns1 dx mA
  ne : dx ≠ x

theorem lookIn_ns {h : Heap} {dx : Addr} {mA : Str → Option Value} (n : h.Ns1 dx mA) : ∃ od, h.get? dx = some od ∧ ∀ name, PySem.W.lookIn name od = some (mA name) := by
  obtain ⟨o, es, ep, ho, hd, hk, _, hm⟩ := n
  refine ⟨o, ho, fun name => ?_⟩
  have e := hm name
  unfold nsFind findBy at e
  rw [← Array.find?_toList] at e
  unfold PySem.W.lookIn
  rw [hd]
  dsimp only
  split
  · rename_i y q
    rw [q] at e
    exact congrArg some e
  · rename_i q
    rw [q] at e
    have a : es.toList.any (·.refKey) = false := by
      rw [List.any_eq_false]
      intro y hy
      obtain ⟨z, t, hkey⟩ := hk y (Array.mem_toList_iff.mp hy)
      simp [DictEntry.refKey, hkey]
    have a' : ¬ es.toList.any (·.refKey) = true := by rw [a]; exact Bool.false_ne_true
    rw [if_neg a']
    exact congrArg some e

theorem ObjM.look {h : Heap} {x dx C : Addr} {mA : Str → Option Value} (I : ObjM h x dx C mA) : ∃ od, PySem.W.InstAt h x (PySem.W.instObj C dx) C (some od) ∧ ∀ name, PySem.W.lookIn name od = some (mA name) :=
  let ⟨od, ho, hl⟩ := lookIn_ns I.ns
  ⟨od, ⟨I.obj, rfl, rfl, ho⟩, hl⟩

section
variable {prog : Program} {w : World} {A : Around} {E : Value → Shared → Prop} {s : Shared} {K : PySem.W.Frag} {x dx C f : Addr} {mA : Str → Option Value} {name : Str} {v : Value}

end

theorem RelO.some_of {v : V} {o : Option Value} (r : RelO (some v) o) : ∃ u, o = some u ∧ RelV v u := by
  cases o with
  | none => exact (show False from r).elim
  | some u => exact ⟨u, rfl, r⟩
section
variable {P : Program} {w : World} {H H' : Hp} {h h' : Heap} {a C dx : Addr} {fs fs' : List (Str × V)}
theorem ins_get (hok : HOk P w H h) (e : H a = some (.ins C dx fs)) : ∃ mA, ObjM h a dx C mA ∧ (∀ f, RelO (fs.lookup f) (mA f)) ∧ PySem.Within mA (fs.map (·.1)) ∧ fs.length ≤ 1000 ∧ H dx = some (.own a) := by
  obtain ⟨d, z, ne, ob, mA, n, r, q⟩ := (show ObjOk P w H h a (.ins C dx fs) from hok a _ e)
  exact ⟨mA, ⟨ob, n, ne⟩, r, q, z, d⟩
end

structure Cls (K : PySem.W.Frag) (C : Addr) : Prop where
  pg : PySem.W.plainGet K C Str.empty = true
  hd : PySem.W.hasDictIn K C = true
  po : PySem.W.plainOver K C = true
  sa : PySem.W.findIn K (.ref C) "__setattr__" = some (some (.builtin "object.__setattr__"))
theorem Cls.get {K : PySem.W.Frag} {C : Addr} (c : Cls K C) (f : Str) : PySem.W.plainGet K C f = true := c.pg
section
variable {X : Cx} {pins : List (Addr × Obj)} {σ : St} {H : Hp} {s : Shared} {a C dx : Addr} {fs : List (Str × V)} {f : Str} {v : V} {A : Around} {E : Value → Shared → Prop}

end

section
variable {X : Cx} {o e value : Expr} {f : Str} {pos pos' tpos : Pos} {ta tv : TE}
end

section
variable {X : Cx} {pins : List (Addr × Obj)} {σ : St} {H : Hp} {s : Shared} {A : Around} {E : Value → Shared → Prop} {Q : Value → Shared → Prop} {c : Value} {b : Bool}
inductive TyOf (K : PySem.W.Frag) (H : Hp) : V → Value → Prop where
  | non : TyOf K H .non (.type "NoneType")
  | bl (x : Bool) : TyOf K H (.bl x) (.type "bool")
  | int (i : Int) : TyOf K H (.int i) (.type "int")
  | str (x : Str) : TyOf K H (.str x) (.type "str")
  | flt (x : UInt64) : TyOf K H (.flt x) (.type "float")
  | lst {a : Addr} {xs : List V} (e : H a = some (.lst xs)) : TyOf K H (.ref a) (.type "list")
  | frz {a : Addr} {o : Obj} {xs : List V} (e : H a = some (.frz o (.lst xs))) : TyOf K H (.ref a) (.type "list")
  | tup {a : Addr} {xs : List V} (e : H a = some (.tup xs)) : TyOf K H (.ref a) (.type "tuple")
  | dK {a : Addr} {kvs : List (Key × V)} (e : H a = some (.dK kvs)) : TyOf K H (.ref a) (.type "dict")
  | dT {a : Addr} {kvs : List (List Key × V)} (e : H a = some (.dT kvs)) : TyOf K H (.ref a) (.type "dict")
  | ins {a C dx : Addr} {fs : List (Str × V)} (e : H a = some (.ins C dx fs)) (cl : Cls K C) (ha : PySem.W.findIn K (.ref C) "__class__" = some (some (.builtin "object.__class__")))
      (hn : PySem.W.specialIn K (.builtin "object.__class__") "__get__" = some (some (.builtin "getset_descriptor.__get__"))) (htk : PySem.W.takesIn K (.builtin "object.__class__") = some true)
      (hm : PySem.W.mroIn K C (.type "object") = some true) : TyOf K H (.ref a) (.ref C)
theorem isinst_ok {x : V} {u t : Value} (I : Inv X pins σ H s) (rx : RelV x u) (ty : TyOf X.K H x t) (e : PySem.W.kitOne X.K t c = some b) (h : ∀ tk, Q (.bool b) { s with toks := tk }) :
    wpAny (model X.prog X.w) A (call (.builtin "isinstance") [u, c]) Q E s := by
  cases ty with
  | non => cases (show u = Value.none from rx); exact PySem.W.kia_one PySem.W.kitx_none I.kIn True.intro e (fun z => nomatch z) h
  | bl y => cases (show u = Value.bool y from rx); exact PySem.W.kia_one PySem.W.kitx_bool I.kIn True.intro e (fun z => nomatch z) h
  | int i => obtain ⟨t, q⟩ := (show ∃ t, u = Value.int i t from rx); cases q; exact PySem.W.kia_one PySem.W.kitx_int I.kIn True.intro e (fun z => nomatch z) h
  | str y => obtain ⟨t, q⟩ := (show ∃ t, u = Value.str y t from rx); cases q; exact PySem.W.kia_one PySem.W.kitx_str I.kIn True.intro e (fun z => nomatch z) h
  | flt y => obtain ⟨t, q⟩ := (show ∃ t, u = Value.float y t from rx); cases q; exact PySem.W.kia_one PySem.W.kitx_float I.kIn True.intro e (fun z => nomatch z) h
  | @lst a xs ea =>
    cases (show u = Value.ref a from rx)
    obtain ⟨_, _, n, _, h1⟩ := (show ObjOk X.prog X.w H s.heap a (.lst xs) from I.hok a _ ea)
    exact PySem.W.kia_one PySem.W.kitx_list I.kIn ⟨_, h1, rfl⟩ e (fun z => nomatch z) h
  | @frz a ob xs ea =>
    cases (show u = Value.ref a from rx)
    obtain ⟨_, _, _, n, _, h1⟩ := (show ObjOk X.prog X.w H s.heap a (.frz ob (.lst xs)) from I.hok a _ ea)
    exact PySem.W.kia_one PySem.W.kitx_list I.kIn ⟨_, h1, rfl⟩ e (fun z => nomatch z) h
  | @tup a xs ea =>
    cases (show u = Value.ref a from rx)
    obtain ⟨_, _, _, p⟩ := (show ObjOk X.prog X.w H s.heap a (.tup xs) from I.hok a _ ea)
    obtain ⟨o, h1, h2, _⟩ := p
    exact PySem.W.kia_one PySem.W.kitx_tuple I.kIn ⟨o, h1, h2.1⟩ e (fun z => nomatch z) h
  | @dK a kvs ea =>
    cases (show u = Value.ref a from rx)
    obtain ⟨_, _, vs, _, p⟩ := (show ObjOk X.prog X.w H s.heap a (.dK kvs) from I.hok a _ ea)
    obtain ⟨o, es, ep, h1, h2, _⟩ := p
    exact PySem.W.kia_one PySem.W.kitx_dict I.kIn ⟨o, h1, h2.1⟩ e (fun z => nomatch z) h
  | @dT a kvs ea =>
    cases (show u = Value.ref a from rx)
    obtain ⟨_, _, xs, _, o, es, ep, h1, h2, _⟩ := (show ObjOk X.prog X.w H s.heap a (.dT kvs) from I.hok a _ ea)
    exact PySem.W.kia_one PySem.W.kitx_dict I.kIn ⟨o, h1, h2.1⟩ e (fun z => nomatch z) h
  | @ins a C dx fs ea cl ha hn htk hm =>
    cases (show u = Value.ref a from rx)
    obtain ⟨mA, O, _⟩ := ins_get I.hok ea
    obtain ⟨od, J, _⟩ := O.look
    exact PySem.W.kia_one (PySem.W.kitx_own (cl.get _) cl.hd ha hn htk hm) I.kIn J e (fun z => nomatch z) h
end
end L2

namespace L2
open PySem PySem.Spec PyProof.Rows

structure Room (k : Nat) (A : Around) : Prop where
  hd : A.handled = none
  dp : A.depth + 3 * k + 5 < recursionLimit
  un : A.units + 16 * k + 200 < cLine
theorem Room.mono {j k : Nat} {A : Around} (r : Room k A) (h : j ≤ k) : Room j A := ⟨r.hd, by have := r.dp; omega, by have := r.un; omega⟩
theorem Room.deeper {k : Nat} {A : Around} (r : Room (k + 1) A) (env : Env) : Room k (A.deeper env) :=
  ⟨r.hd, by have := r.dp; show A.depth + 1 + 3 * k + 5 < _; omega, by have := r.un; show A.units + 3 + 16 * k + 200 < _; omega⟩
theorem Room.depth {k : Nat} {A : Around} (r : Room k A) : A.depth < recursionLimit := by have := r.dp; omega
theorem Room.units {k : Nat} {A : Around} (r : Room k A) : A.units + 64 < cLine := by have := r.un; omega
def tNil : TA := fun _ H Q => Q [] H
def tCons (ta : TE) (tr : TA) : TA := fun σ H Q => ta σ H fun x H1 => tr σ H1 fun xs H2 => Q (x :: xs) H2
section
variable {X : Cx} {e : Expr} {es : List Expr} {te : TE} {t : TA} {pos : Pos}
theorem pa_nil : PA X [] tNil := fun _ _ _ _ H Q I h => Calls.spliced_nil ⟨[], H, I, .nil, h⟩
theorem pa_cons (ha : PE X e te) (hr : PA X es t) (hs : starEach (e :: es) X.env = (false, eval e X.env) :: starEach es X.env := by rfl) : PA X (e :: es) (tCons te t) := by
  intro pos pins s σ H Q I h
  rw [hs]
  show wpAny _ _ (spliced ((false, eval e X.env) :: backTo pos (starEach es X.env))) _ _ s
  refine Calls.spliced_cons (thn (ha pins s σ H _ I h) fun u s1 ⟨x, H1, I1, r1, q1⟩ => ?_)
  exact thn (hr pos pins s1 σ H1 _ I1 q1) fun us s2 ⟨xs, H2, I2, r2, q2⟩ => ⟨x :: xs, H2, I2, .cons r1 r2, q2⟩

def tTup (t : TA) : TE := fun σ H Q => t σ H fun xs H1 => xs.length ≤ sizeLine ∧ ∀ p, H1 p = none → Q (.ref p) (upd H1 p (.tup xs))
def tLst (t : TA) : TE := fun σ H Q => t σ H fun xs H1 => xs.length ≤ sizeLine ∧ ∀ p, H1 p = none → Q (.ref p) (upd H1 p (.lst xs))
theorem pe_tup {x1} (h : PA X es t) : PE X (.Tuple es x1 pos) (tTup t) := by
  intro pins s σ H Q I hq
  refine wpAny_Tuple_spliced (thn (h pos pins s σ H _ I hq) fun us s1 ⟨xs, H1, I1, r, z, q⟩ => ⟨by rw [← r.length]; exact z, ?_⟩)
  have hf : H1 s1.heap.objs.size = none := I1.hok.fresh (Nat.le_refl _)
  refine ⟨.ref s1.heap.objs.size, upd H1 s1.heap.objs.size (.tup xs), I1.laid (t' := s1.toks) (fun b u e => Heap.get?_push_of_some _ e) (Nat.le_refl _) ?_, rfl, q _ hf⟩
  exact ⟨z, us, r, IsTupN.new _ _⟩
theorem pe_lst (h : PA X es t) : PE X (.List es pos) (tLst t) := by
  intro pins s σ H Q I hq
  refine wpAny_List_spliced (thn (h pos pins s σ H _ I hq) fun us s1 ⟨xs, H1, I1, r, z, q⟩ => ⟨by rw [← r.length]; exact z, ?_⟩)
  have hf : H1 s1.heap.objs.size = none := I1.hok.fresh (Nat.le_refl _)
  refine ⟨.ref s1.heap.objs.size, upd H1 s1.heap.objs.size (.lst xs), I1.laid (t' := s1.toks) (fun b u e => Heap.get?_push_of_some _ e) (Nat.le_refl _) ?_, rfl, q _ hf⟩
  exact ⟨z, us, 0, r, Heap.get?_push_size _ rfl⟩
end

abbrev Sp := List V → Hp → VK → XK → Prop
abbrev CXT := List Env → Hp → Shared → XK → Value → Shared → Prop

structure Env0 (P : Program) (w : World) (K : PySem.W.Frag) (mg : Str → Option Value) (base : Heap) (A : Around) (outer : List Env) (s : Shared) (H : Hp) : Prop where
  frames : A.frames = some outer
  mod : Mod K mg base
  bs : ∀ b o, base.get? b = some o → s.heap.get? b = some o ∧ H b = none
  bsz : base.objs.size ≤ s.heap.objs.size
  funs : s.heap.FunFrames base outer
  frf : ∀ b ∈ frs outer, H b = none
  hok : HOk P w H s.heap
  bare : AllBare s.gens
def CE (outer : List Env) (P : Program) (w : World) (H : Hp) (s : Shared) (Q : VK) (u : Value) (s' : Shared) : Prop :=
  ∃ v H', s'.os = s.os ∧ AllBare s'.gens ∧ Un (frs outer) [] H H' s.heap s'.heap ∧ HOk P w H' s'.heap ∧ RelV v u ∧ Q v H'
def CR (CX : CXT) (outer : List Env) (P : Program) (w : World) (H : Hp) (s : Shared) (Q : VK) (E : XK) (r : Result) (s' : Shared) : Prop :=
  match r with
  | .ok (.ret u) => CE outer P w H s Q u s'
  | .ok _ => False
  | .error e => CX outer H s E e s'
structure FnOk (P : Program) (w : World) (K : PySem.W.Frag) (mg : Str → Option Value) (base : Heap) (CX : CXT) (k : Nat) (f : Addr) (fd : FuncData) (ps : List Str) (sp : Sp) : Prop where
  len : ∀ vs H Q E, sp vs H Q E → vs.length = ps.length
  run : ∀ (A : Around) (outer : List Env) (s : Shared) (H : Hp) (args : Args) (us : List Value) (vs : List V) (Q : VK) (E : XK), Room k A → Env0 P w K mg base A outer s H → BindsTo s fd args (ps.zip us) → Vals vs us → sp vs H Q E →
    codeAny (model P w) A (.call (.ref f) args) (CR CX outer P w H s Q E) s
theorem FnOk.mono {P : Program} {w : World} {K : PySem.W.Frag} {mg : Str → Option Value} {base : Heap} {CX : CXT} {j k : Nat} {f : Addr} {fd : FuncData} {ps : List Str} {sp : Sp} (F : FnOk P w K mg base CX j f fd ps sp) (h : j ≤ k) :
    FnOk P w K mg base CX k f fd ps sp := ⟨F.len, fun A outer s H args us vs Q E hr => F.run A outer s H args us vs Q E (hr.mono h)⟩
section
variable {X : Cx} {pins : List (Addr × Obj)} {σ : St} {H : Hp} {s s' : Shared}
theorem Inv.env0 (I : Inv X pins σ H s) : Env0 X.prog X.w X.K X.mg X.base X.A X.stack s H :=
  ⟨I.ok.frames, I.ok.mod, I.bs, Nat.le_trans I.ok.bsz I.sz, I.stack, I.stkFree, I.hok, I.bare⟩
theorem Inv.after {Q : VK} {u : Value} (I : Inv X pins σ H s) (h : CE X.stack X.prog X.w H s Q u s') : EP X pins σ Q u s' := by
  obtain ⟨v, H', os, bare, un, hok, r, q⟩ := h
  obtain ⟨hh, g, d, t, os'⟩ := s'
  obtain rfl : os' = s.os := os
  exact ⟨v, H', I.call (h' := hh) (g' := g) (d' := d) (t' := t) (ch := []) un hok bare (fun b z => absurd z (by simp)), r, q⟩
end

def tCall (sp : Sp) (dvs : List V) (E : XK) (t : TA) : TE := fun σ H Q => t σ H fun vs H1 => sp (vs ++ dvs) H1 Q E
def Binds (K : PySem.W.Frag) (fd : FuncData) (ps : List Str) (ds : List Value) : Prop :=
  ∀ (s : Shared) (us : List Value), K.In s.heap → (us ++ ds).length = ps.length → BindsTo s fd ⟨us, []⟩ (ps.zip (us ++ ds))
theorem Binds.all {K : PySem.W.Frag} {fd : FuncData} {ps : List Str} (h : ∀ us : List Value, us.length = ps.length → bindArgs fd ⟨us, []⟩ = pure (ps.zip us)) : Binds K fd ps [] := fun s us _ hl => by
  rw [List.append_nil] at hl ⊢
  exact .of_eq (h us hl)

def Passes (CX : CXT) (X : Cx) (E : XK) : Prop := ∀ (pins : List (Addr × Obj)) (σ : St) (H : Hp) (s : Shared) (e : Value) (s' : Shared), Inv X pins σ H s → CX X.stack H s E e s' → X.xe e s'

section
variable {X : Cx} {CX : CXT} {k : Nat} {f C : Addr} {fd : FuncData} {ps : List Str} {sp : Sp} {dvs : List V} {ds : List Value} {E : XK} {x m : Str} {p pos apos : Pos} {e o : Expr} {es : List Expr} {ta : TE} {t : TA}

theorem run_fn {pins : List (Addr × Obj)} {σ : St} {H : Hp} {s : Shared} {Q : VK} {us : List Value} {vs : List V} (F : FnOk X.prog X.w X.K X.mg X.base CX k f fd ps sp) (hr : Room k X.A) (hb : Binds X.K fd ps ds) (hd : Vals dvs ds) (hx : Passes CX X E)
    (I : Inv X pins σ H s) (r : Vals vs us) (h : sp (vs ++ dvs) H Q E) : wpAny (model X.prog X.w) X.A (call (.ref f) us) (EP X pins σ Q) X.xe s := by
  have r2 : Vals (vs ++ dvs) (us ++ ds) := r.append hd
  have hl : (us ++ ds).length = ps.length := by rw [← r2.length]; exact F.len _ _ _ _ h
  refine wpAny_call (codeAny_mono (F.run X.A X.stack s H ⟨us, []⟩ (us ++ ds) (vs ++ dvs) Q E hr I.env0 (hb s us I.kIn hl) r2 h) fun r s' hq => ?_)
  cases r with
  | error e => exact hx pins σ H s e s' I hq
  | ok fl =>
    cases fl with
    | ret u => exact I.after hq
    | next => exact False.elim hq
    | brk => exact False.elim hq
    | cont => exact False.elim hq

theorem pe_call (F : FnOk X.prog X.w X.K X.mg X.base CX k f fd ps sp) (hr : Room k X.A) (hg : Gl X x) (hm : X.mg x = some (.ref f)) (hk : PySem.W.keepIn X.K (.ref f) = true) (hb : Binds X.K fd ps ds) (hd : Vals dvs ds) (hx : Passes CX X E)
    (ha : PA X (e :: es) t) (hdb : (x == ("__debug__" : Str)) = false := by decide) (he : starEach (e :: es) X.env = (false, eval e X.env) :: starEach es X.env := by rfl) (hpl : (backTo pos (starEach es X.env)).any (·.1) = false := by rfl) :
    PE X (.Call (.Name x p) (e :: es) [] pos) (tCall sp dvs E t) := by
  intro pins s σ H Q I h
  refine wpAny_Call_Name_kw (ld_glob I hg hm ?_ hdb)
  refine PySem.W.callWith_K (h₀ := X.base) I.ok.mod.kin hk (thn (ha pos pins s σ H _ I h) fun us s1 ⟨vs, H1, I1, r, q⟩ => ⟨I1.kIn, ?_⟩) he hpl
  exact run_fn F hr hb hd hx I1 r q
end

section
variable {X : Cx} {CX : CXT} {k : Nat} {f C : Addr} {fd : FuncData} {ps ks : List Str} {sp : Sp} {E : XK} {x m : Str} {p pos apos kpos : Pos} {e o : Expr} {es : List Expr} {kws : List Keyword} {te ta : TE} {t tk : TA} {nm : Option Str}
variable {g : List Value → List Value → List Value} {gV : List V → List V → List V}
end

structure FnScope (N P : List Str) (sc : Scope) : Prop where
  kind : sc.kind = .function
  co : sc.isCoroutine = false
  gen : sc.isGenerator = false
  nd : N.Nodup
  pre : N.take P.length = P
  par : ∀ x ∈ P, sc.names.lookup x = some .local ∨ sc.names.lookup x = some .cell
  nofree : ∀ y ∈ sc.names, y.2 ≠ .free

theorem bindL_out {kindOf : Str → Option NameKind} {x : Str} : ∀ {binds : List (Str × Value)} {m : Str → Option Value}, (∀ v, (x, v) ∉ binds) → bindL kindOf binds m x = m x
  | [], _, _ => rfl
  | (n, v) :: r, m, h => by
    unfold bindL
    rw [bindL_out fun w hw => h w (List.mem_cons_of_mem _ hw)]
    split
    · have : x ≠ n := by rintro rfl; exact h v List.mem_cons_self
      simp [this]
    · rfl
theorem bindC_out {kindOf : Str → Option NameKind} {x : Str} : ∀ {binds : List (Str × Value)} {m : Str → Option Value}, (∀ v, (x, v) ∉ binds) → bindC kindOf binds m x = m x
  | [], _, _ => rfl
  | (n, v) :: r, m, h => by
    unfold bindC
    rw [bindC_out fun w hw => h w (List.mem_cons_of_mem _ hw)]
    split
    · rfl
    · have : x ≠ n := by rintro rfl; exact h v List.mem_cons_self
      simp [this]
theorem bindL_get {kindOf : Str → Option NameKind} {x : Str} {v : Value} : ∀ {P : List Str} {vs : List Value} {i : Nat} {m : Str → Option Value}, P.Nodup → P[i]? = some x → vs[i]? = some v → kindOf x = some .local →
    bindL kindOf (P.zip vs) m x = some v
  | [], _, _, _, _, h, _, _ => by simp at h
  | _ :: _, [], _, _, _, _, h, _ => by simp at h
  | p :: P, w :: vs, 0, m, nd, h1, h2, hk => by
    simp at h1 h2; subst h1; subst h2
    show bindL kindOf ((p, w) :: P.zip vs) m p = _
    unfold bindL
    rw [bindL_out fun v hv => (List.nodup_cons.mp nd).1 (List.of_mem_zip hv).1, if_pos hk]
    simp
  | p :: P, w :: vs, i + 1, m, nd, h1, h2, hk => by
    show bindL kindOf ((p, w) :: P.zip vs) m x = _
    unfold bindL
    exact bindL_get (i := i) (List.nodup_cons.mp nd).2 (by simpa using h1) (by simpa using h2) hk
theorem bindC_get {kindOf : Str → Option NameKind} {x : Str} {v : Value} : ∀ {P : List Str} {vs : List Value} {i : Nat} {m : Str → Option Value}, P.Nodup → P[i]? = some x → vs[i]? = some v → kindOf x ≠ some .local →
    bindC kindOf (P.zip vs) m x = some v
  | [], _, _, _, _, h, _, _ => by simp at h
  | _ :: _, [], _, _, _, _, h, _ => by simp at h
  | p :: P, w :: vs, 0, m, nd, h1, h2, hk => by
    simp at h1 h2; subst h1; subst h2
    show bindC kindOf ((p, w) :: P.zip vs) m p = _
    unfold bindC
    rw [bindC_out fun v hv => (List.nodup_cons.mp nd).1 (List.of_mem_zip hv).1, if_neg hk]
    simp
  | p :: P, w :: vs, i + 1, m, nd, h1, h2, hk => by
    show bindC kindOf ((p, w) :: P.zip vs) m x = _
    unfold bindC
    exact bindC_get (i := i) (List.nodup_cons.mp nd).2 (by simpa using h1) (by simpa using h2) hk

def start (N : List Str) (vs : List V) : St := vs.map some ++ List.replicate (N.length - vs.length) none

def cxOf (CX : CXT) (P : Program) (w : World) (K : PySem.W.Frag) (mg : Str → Option Value) (base : Heap) (N : List Str) (qual : Str) (scope : Scope) (f : Addr) (cd : Value) (A : Around) (outer : List Env) (s : Shared) (H : Hp) (E : XK) : Cx where
  prog := P
  w := w
  K := K
  mg := mg
  base := base
  A := A.deeper (envOfC qual scope s.heap.objs.size f cd)
  N := N
  s₀ := s
  H₀ := H
  env := envOfC qual scope s.heap.objs.size f cd
  outer := outer
  stack := envOfC qual scope s.heap.objs.size f cd :: outer
  ex := []
  calm := true
  fn := fun _ => true
  pn := []
  xe := fun e s' => wpAny (model P w) (A.deeper (envOfC qual scope s.heap.objs.size f cd)) (leaving (envOfC qual scope s.heap.objs.size f cd) e) (fun _ s'' => CX outer H s E e s'') (fun e' s'' => CX outer H s E e' s'') s'

theorem cell_has {sc : Scope} {n : Nat} {x : Str} (h : sc.names.lookup x = some .cell) : ∃ c, (cellsFrom n sc.names []).lookup x = some c := by
  have q := PySem.W.cellsFrom_some sc.names n [] (.inl h)
  exact Option.isSome_iff_exists.mp q

theorem inv_start {CX : CXT} {P : Program} {w : World} {K : PySem.W.Frag} {mg : Str → Option Value} {base : Heap} {N ps : List Str} {qual : Str} {scope : Scope} {f : Addr} {cd : Value} {A : Around} {outer : List Env} {s s1 : Shared} {H : Hp} {E : XK} {us : List Value} {vs : List V}
    (S : FnScope N ps scope) (hd : A.handled = none) (e0 : Env0 P w K mg base A outer s H) (hl : vs.length = ps.length) (r : Vals vs us)
    (x : InCallC s s.heap.objs.size (bindL (envOfC qual scope s.heap.objs.size f cd).kindOf (ps.zip us) fun _ => none) (cellsFrom (s.heap.objs.size + 1) scope.names []) (bindC (envOfC qual scope s.heap.objs.size f cd).kindOf (ps.zip us) fun _ => none) s1) :
    Inv (cxOf CX P w K mg base N qual scope f cd A outer s H E) [] (start N vs) H s1 := by
  have hpl : ps.length ≤ N.length := by have := congrArg List.length S.pre; rw [List.length_take] at this; omega
  obtain ⟨h1, tk, rfl, hk⟩ := x.done
  have noA : ∀ b : Addr, b ∉ (cxOf CX P w K mg base N qual scope f cd A outer s H E).ex := fun b z => absurd (show b ∈ ([] : List Addr) from z) (by simp)
  refine ⟨⟨e0.mod, S.kind, rfl, rfl, Nat.le_refl _, fun y z c h1 h2 => ?_, fun y hy => ?_, fun y c _ h => ?_, fun _ => hd, Around.frames_deeper e0.frames, .inr ⟨rfl, rfl⟩, fun b z => absurd z (noA b), e0.bs, e0.bsz, fun b _ _ => noA b, fun b z => absurd z (noA b), e0.funs, e0.frf⟩,
    rfl, e0.bare, Un.kept hk, ⟨_, x.toInCall.ns, fun i y v h1 h2 h3 => ?_⟩, fun y c h => ⟨_, x.cell y c h⟩, e0.hok.fresh (Nat.le_refl _), fun y c h => ?_, fun p hp => absurd (show p ∈ ([] : List (Addr × Obj)) from hp) (by simp), e0.hok.kept hk, ?_⟩
  · exact name_of_addr x.apart (PySem.mem_of_lookup h1) (PySem.mem_of_lookup h2)
  · have hy : scope.names.lookup y = some .cell ∨ scope.names.lookup y = some .free := hy
    rcases hy with hy | hy
    · exact cell_has hy
    · exact absurd rfl (S.nofree _ (PySem.mem_of_lookup hy))
  · exact Nat.le_of_lt (x.above y c (PySem.mem_of_lookup h))
  · have hi : i < vs.length := by
      unfold start at h2
      by_cases hi : i < vs.length
      · exact hi
      · rw [List.getElem?_append_right (by simpa using hi)] at h2
        rw [List.getElem?_replicate] at h2
        split at h2 <;> cases h2
    have ha : vs[i]? = some v := by
      unfold start at h2
      rw [List.getElem?_append_left (by simpa using hi), List.getElem?_map] at h2
      cases e : vs[i]? with
      | none => rw [e] at h2; cases h2
      | some a => rw [e] at h2; cases h2; rfl
    obtain ⟨u, hu, rv⟩ := r.get ha
    have hp : ps[i]? = some y := by
      rw [← S.pre, List.getElem?_take_of_lt (by omega)]; exact h1
    have ndP : ps.Nodup := by rw [← S.pre]; exact S.nd.sublist (List.take_sublist _ _)
    refine ⟨u, rv, ?_⟩
    rcases S.par y (List.mem_of_getElem? hp) with k | k
    · exact .inl ⟨k, bindL_get ndP hp hu k⟩
    · obtain ⟨c, e⟩ := cell_has (n := s.heap.objs.size + 1) k
      refine .inr ⟨.inl k, c, e, ?_⟩
      have q := x.cell y c e
      rw [bindC_get ndP hp hu (by show scope.names.lookup y ≠ _; rw [k]; decide)] at q
      exact q
  · exact e0.hok.fresh (Nat.le_of_lt (x.above y c (PySem.mem_of_lookup h)))
  · unfold start
    show _ = N.length
    rw [List.length_append, List.length_map, List.length_replicate]
    omega

theorem fn_of {CX : CXT} {P : Program} {w : World} {K : PySem.W.Frag} {mg : Str → Option Value} {base : Heap} {k : Nat} {f : Addr} {name qual : Str} {params : Arguments} {body : List Stmt} {scope : Scope} {dV kV doc pm cdv ct oc : Value} {an od : Option Addr}
    {osl : Array (Option Value)} {N ps : List Str} {sp : Sp} (lk : K.lookup f = some ⟨oc, od, .func (PySem.W.fnOf name qual params body scope dV kV doc pm an cdv ct), osl⟩) (hcd : PySem.W.codeIn K cdv qual = true) (S : FnScope N ps scope)
    (len : ∀ vs H Q E, sp vs H Q E → vs.length = ps.length)
    (hbody : ∀ (A : Around) (outer : List Env) (s : Shared) (H : Hp) (vs : List V) (Q : VK) (E : XK), Room k (A.deeper (envOfC qual scope s.heap.objs.size f cdv)) → sp vs H Q E →
      ∃ t, PSs (cxOf CX P w K mg base N qual scope f cdv A outer s H E) body t ∧ t { nx := fun _ H' => Q .non H', rt := Q } (start N vs) H) :
    FnOk P w K mg base CX (k + 1) f (PySem.W.fnOf name qual params body scope dV kV doc pm an cdv ct) ps sp := by
  refine ⟨len, fun A outer s H args us vs Q E hr e0 hb r hsp => ?_⟩
  have hl := len _ _ _ _ hsp
  have KX : K.In s.heap := e0.mod.kin.keeps fun b o e => (e0.bs b o e).1
  have lim : s.heap.NoLimit := e0.mod.nolimit.keeps fun b o e => (e0.bs b o e).1
  have hkind : ∀ y ∈ ps.zip us, scope.names.lookup y.1 = some .local ∨ (scope.names.lookup y.1 = some .cell ∧ ((cellsFrom (s.heap.objs.size + 1) scope.names []).lookup y.1).isSome = true) := fun ⟨n, v⟩ hy => by
    rcases S.par n (List.of_mem_zip hy).1 with q | q
    · exact .inl q
    · exact .inr ⟨q, PySem.W.cellsFrom_some _ _ _ (.inl q)⟩
  refine codeAny_call_function hr.depth (KX _ _ lk) rfl S.co S.gen rfl (PySem.W.codeRec_of KX hcd) (hb _ _ _ _ ?_)
  refine wpAny_newFunctionEnv_cells S.kind hkind fun env he s1 x => ?_
  subst he
  refine ⟨lim.keeps x.toInCall.keep, codeAny_func ?_⟩
  obtain ⟨t, ht, hq⟩ := hbody A outer s H vs Q E (hr.deeper _) hsp
  have I : Inv (cxOf CX P w K mg base N qual scope f cdv A outer s H E) [] (start N vs) H s1 := inv_start S hr.hd e0 hl r x
  refine wpAny_mono (ht [] s1 (start N vs) H _ I hq) (fun fl s' hs => ?_) fun e s' hs => hs
  have fin : ∀ {σ' : St} {H' : Hp} {v : V} {u : Value}, Inv (cxOf CX P w K mg base N qual scope f cdv A outer s H E) [] σ' H' s' → RelV v u → Q v H' → CE outer P w H s Q u s' :=
    fun {σ' H' v u} J rv q => ⟨v, H', J.os, J.bare, J.base, J.hok, rv, q⟩
  cases fl with
  | ret u =>
    obtain ⟨v, σ', H', J, rv, q⟩ := hs
    exact fin J rv q
  | next =>
    obtain ⟨σ', H', J, q⟩ := hs
    exact fin (v := V.non) (u := Value.none) J rfl q
  | brk =>
    obtain ⟨_, _, _, q⟩ := hs
    exact False.elim q
  | cont =>
    obtain ⟨_, _, _, q⟩ := hs
    exact False.elim q
end L2

namespace L2
open PySem PySem.Spec PyProof.Rows
section
variable {X : Cx} {x : Str} {p pos : Pos} {e : Expr} {es : List Expr} {t : TA} {id T : String} {r : List V → Hp → VK → Prop}

def tCB (r : List V → Hp → VK → Prop) (t : TA) : TE := fun σ H Q => t σ H fun vs H1 => r vs H1 Q
theorem pe_callB (hc : CallR X (.builtin id) r) (hg : Gl X x) (hm : X.mg x = none) (hv : bootBuiltins x = some (.builtin id)) (ha : PA X (e :: es) t) (hn : x ≠ "__name__" := by decide) (hdb : (x == ("__debug__" : Str)) = false := by decide)
    (he : starEach (e :: es) X.env = (false, eval e X.env) :: starEach es X.env := by rfl) (hpl : (backTo pos (starEach es X.env)).any (·.1) = false := by rfl) : PE X (.Call (.Name x p) (e :: es) [] pos) (tCB r t) := by
  intro pins s σ H Q I h
  refine wpAny_Call_Name_kw (ld_blt I hg hm hv ?_ hn hdb)
  exact PyProof.Rows.callWith_builtin1 (thn (ha pos pins s σ H _ I h) fun us s1 ⟨vs, H1, I1, r1, q1⟩ => hc pins s1 σ H1 vs us Q I1 r1 q1) he hpl
theorem pe_callTy (hc : CallR X (.type T) r) (hg : Gl X x) (hm : X.mg x = none) (hv : bootBuiltins x = some (.type T)) (ha : PA X (e :: es) t) (hn : x ≠ "__name__" := by decide) (hdb : (x == ("__debug__" : Str)) = false := by decide)
    (he : starEach (e :: es) X.env = (false, eval e X.env) :: starEach es X.env := by rfl) (hpl : (backTo pos (starEach es X.env)).any (·.1) = false := by rfl) : PE X (.Call (.Name x p) (e :: es) [] pos) (tCB r t) := by
  intro pins s σ H Q I h
  refine wpAny_Call_Name_kw (ld_blt I hg hm hv ?_ hn hdb)
  exact PyProof.Rows.callWith_type1 (thn (ha pos pins s σ H _ I h) fun us s1 ⟨vs, H1, I1, r1, q1⟩ => hc pins s1 σ H1 vs us Q I1 r1 q1) he hpl
end
end L2



set_option Elab.async false
set_option linter.all false
set_option maxRecDepth 100000
namespace HT
open PySem PyProof.Rows

section
open PySem.SeqAt
open PySem.AutoSeq1 (wpAny_loadPart')
open PySem.MeetsSeq PySem.MeetsSeq2 PySem.MeetsSeq3

end

section
variable {prog : Program} {w : World} {A : Around} {E : Value → Shared → Prop} {s : Shared}

theorem cat_tup {t b : Addr} {vs ws : List Value} {Q : Value → Shared → Prop} (ht : IsTup s.heap t vs.toArray) (hb : IsTup s.heap b ws.toArray) (hv : vs ≠ [])
    (h1 : ws = [] → Q (.ref t) s) (h2 : ws ≠ [] → Q (.ref s.heap.objs.size) { s with heap := s.heap.push { cls := .type "tuple", data := .seq (vs ++ ws).toArray } })
    (hsz : vs.length + ws.length ≤ sizeLine) : wpAny (model prog w) A (binaryOp .Add (.ref t) (.ref b)) Q E s := by
  obtain ⟨⟨cls, dd, data, sl⟩, ho, hc, n, hd⟩ := id ht
  obtain ⟨⟨cls2, dd2, data2, sl2⟩, ho2, hc2, n2, hd2⟩ := id hb
  simp only at hc hd hc2 hd2
  subst hc hd hc2 hd2
  have e : vs.toArray ++ ws.toArray = (vs ++ ws).toArray := by simp
  by_cases hw : ws = []
  · exact concat_meets ⟨_, ho, rfl⟩ ⟨_, ho2, rfl⟩ noFill_tuple_add seq_tuple_add PySem.F.slot_tuple_add PySem.F.entry_tuple_add (PySem.F.args_tuple_add_2 _ _)
      (tuple_addW1 t b vs.toArray ws.toArray n n2 dd dd2 sl sl2 (by simpa using hv) (by simp [hw])) ⟨ho, ho2, h1 hw⟩
  · refine concat_meets ⟨_, ho, rfl⟩ ⟨_, ho2, rfl⟩ noFill_tuple_add seq_tuple_add PySem.F.slot_tuple_add PySem.F.entry_tuple_add (PySem.F.args_tuple_add_2 _ _)
      (tuple_addW2 t b vs.toArray ws.toArray n n2 dd dd2 sl sl2 (by simpa using hv) (by simpa using hw) (by rw [List.size_toArray, List.size_toArray]; exact hsz)) ⟨ho, ho2, ?_⟩
    rw [e]
    exact h2 hw

end
end HT

namespace L2
open PySem PySem.Spec PyProof.Rows

section
variable {X : Cx} {e : Expr} {te : TE} {lo hi : Option Expr} {tl th : TO} {pos p2 : Pos}

def rCatT (K : PySem.W.Frag) : R2 := fun x y H Q => ∃ a b xs ys, x = .ref a ∧ y = .ref b ∧ SqT K H a xs ∧ SqT K H b ys ∧ xs ≠ [] ∧ xs.length + ys.length ≤ sizeLine ∧
  (ys = [] → Q (.ref a) H) ∧ (ys ≠ [] → ∀ p, H p = none → Q (.ref p) (upd H p (.tup (xs ++ ys))))
theorem Vals.nil_iff {xs : List V} {us : List Value} (r : Vals xs us) : us = [] ↔ xs = [] := by
  cases r with
  | nil => simp
  | cons _ _ => simp
theorem op_catT : OpR X (binaryOp .Add) (rCatT X.K) := by
  intro pins s σ H x y v u Q I rx ry h
  obtain ⟨a, b, xs, ys, rfl, rfl, ha, hb, hx, hz, q1, q2⟩ := h
  cases rx
  cases ry
  obtain ⟨its, r1, p1, _⟩ := I.tuple ha
  obtain ⟨its2, r2, p2, _⟩ := I.tuple hb
  refine HT.cat_tup p1 p2 (fun z => hx (r1.nil_iff.mp z)) (fun z => ⟨.ref a, H, I, rfl, q1 (r2.nil_iff.mp z)⟩) (fun z => ?_) (by rw [← r1.length, ← r2.length]; exact hz)
  refine ⟨.ref s.heap.objs.size, _, I.laid (t' := s.toks) (o := .tup (xs ++ ys)) (fun b ob q => Heap.get?_push_of_some _ q) (Nat.le_refl _) ?_, rfl, q2 (fun w => z (r2.nil_iff.mpr w)) _ (I.hok.fresh (Nat.le_refl _))⟩
  exact ⟨by rw [List.length_append]; exact hz, _, r1.append r2, IsTupN.new _ _⟩
end
end L2

namespace L2
open PySem PySem.Spec PyProof.Rows

def ixN (n : Nat) (i : Int) : Option Nat := if 0 ≤ i then (if i < n then some i.toNat else none) else if -(n : Int) ≤ i then some (i + n).toNat else none
def atI {α : Type} (xs : List α) (i : Int) : Option α := (ixN xs.length i).bind fun j => xs[j]?
theorem ixN_seq {n : Nat} {i : Int} {j : Nat} (h : ixN n i = some j) : seqIndex? i n = some j ∧ j < n ∧ -(n : Int) ≤ i ∧ i < n := by
  unfold ixN at h
  by_cases h0 : 0 ≤ i
  · rw [if_pos h0] at h
    by_cases h1 : i < n
    · rw [if_pos h1] at h
      have e : i.toNat = j := Option.some.inj h
      exact ⟨by rw [seqIndex_of h0 h1, e], by omega, by omega, h1⟩
    · rw [if_neg h1] at h; cases h
  · rw [if_neg h0] at h
    by_cases h1 : -(n : Int) ≤ i
    · rw [if_pos h1] at h
      have e : (i + n).toNat = j := Option.some.inj h
      exact ⟨by rw [seqIndex_neg (by omega) h1, e], by omega, h1, by omega⟩
    · rw [if_neg h1] at h; cases h
theorem atI_get {α : Type} {xs : List α} {i : Int} {v : α} (h : atI xs i = some v) : ∃ j, seqIndex? i xs.length = some j ∧ xs[j]? = some v ∧ j < xs.length ∧ -(xs.length : Int) ≤ i ∧ i < xs.length := by
  unfold atI at h
  cases e : ixN xs.length i with
  | none => rw [e] at h; cases h
  | some j =>
    rw [e] at h
    obtain ⟨h1, h2, h3, h4⟩ := ixN_seq e
    exact ⟨j, h1, h, h2, h3, h4⟩
theorem atI_nat {α : Type} {xs : List α} {j : Nat} {v : α} (h : xs[j]? = some v) : atI xs (j : Int) = some v := by
  have hj : j < xs.length := (List.getElem?_eq_some_iff.mp h).1
  have e : ixN xs.length (j : Int) = some j := by
    unfold ixN
    rw [if_pos (by omega), if_pos (by omega)]; simp
  unfold atI; rw [e]; exact h
def PlainIx (b : Expr) : Prop := ∀ o i, subscripted b false o i = operate [o, i] (getItem o i)
def IxR (X : Cx) (r : R2) : Prop :=
  ∀ (value slice : Expr) (pins : List (Addr × Obj)) (s : Shared) (σ : St) (H : Hp) (x y : V) (v u : Value) (Q : VK), Inv X pins σ H s → RelV x v → RelV y u → r x y H Q →
    subscripted slice false v u = operate [v, u] (getItem v u) → wpAny (model X.prog X.w) X.A (subscriptTail value slice v u) (EP X pins σ Q) X.xe s
def MtR (X : Cx) (id : String) (r : V → List V → Hp → VK → Prop) : Prop :=
  ∀ (pins : List (Addr × Obj)) (s : Shared) (σ : St) (H : Hp) (x : V) (xs : List V) (v : Value) (us : List Value) (Q : VK), Inv X pins σ H s → RelV x v → Vals xs us → r x xs H Q →
    wpAny (model X.prog X.w) X.A (call (.builtin id) (v :: us)) (EP X pins σ Q) X.xe s
section
variable {X : Cx} {a b : Expr} {ta tb : TE} {pos : Pos}
theorem IxR.or {r r' : R2} (h : IxR X r) (h' : IxR X r') : IxR X (fun x y H Q => r x y H Q ∨ r' x y H Q) := by
  intro value slice pins s σ H x y v u Q I rx ry q hs
  rcases q with q | q
  · exact h value slice pins s σ H x y v u Q I rx ry q hs
  · exact h' value slice pins s σ H x y v u Q I rx ry q hs
theorem pe_ix {r : R2} (hr : IxR X r) (ha : PE X a ta) (hb : PE X b tb) (hs : PlainIx b) : PE X (.Subscript a b pos) (tOp r ta tb) := by
  intro pins s σ H Q I h
  exact Subscript_ (binT ha hb I h fun v u s2 x y H2 I2 rx ry q => hr a b pins s2 σ H2 x y v u Q I2 rx ry q (hs _ _))

def rIxL (K : PySem.W.Frag) : R2 := fun x y H Q => ∃ p xs i v, x = .ref p ∧ y = .int i ∧ SqL K H p xs ∧ atI xs i = some v ∧ Q v H
def rIxT (K : PySem.W.Frag) : R2 := fun x y H Q => ∃ p xs i v, x = .ref p ∧ y = .int i ∧ SqT K H p xs ∧ atI xs i = some v ∧ Q v H
def rIxS : R2 := fun x y H Q => ∃ z i c, x = .str z ∧ y = .int i ∧ z.length ≤ sizeLine ∧ atI z.cps.toList i = some c ∧ Q (.str ⟨#[c]⟩) H
theorem ix_list : IxR X (rIxL X.K) := by
  intro value slice pins s σ H x y v u Q I rx ry h hs
  obtain ⟨p, xs, i, z, rfl, rfl, hq, he, q⟩ := h
  cases rx
  obtain ⟨t, rfl⟩ := ry
  obtain ⟨its, r, pl, hz⟩ := I.list hq
  obtain ⟨j, h1, h2, h3, h4, h5⟩ := atI_get he
  obtain ⟨w, ew, rw'⟩ := r.get h2
  have hl := r.length
  have hn := line63
  have fin : EP X pins σ Q w s := ⟨z, H, I, rw', q⟩
  by_cases h0 : 0 ≤ i
  · have hj : i.toNat = j := by
      rw [seqIndex_of h0 h5] at h1
      exact Option.some.inj h1
    exact item_listR pl.isList h0 (by omega) (by rw [hj]; simpa using ew) fin hs
  · have hj : (i + (its.toArray.size : Int)).toNat = j := by
      rw [seqIndex_neg (by omega) h4] at h1
      rw [List.size_toArray, ← hl]
      exact Option.some.inj h1
    exact subscriptTail_builtinR (x := w) pl.isList.typeIs slot_list_getitem.lookup
      (wpAny_getItem_list_neg (Q := fun r s' => r = w ∧ EP X pins σ Q r s') pl.isList (by omega) (by rw [List.size_toArray] <;> omega) (by omega) (by rw [hj]; simpa using ew) ⟨rfl, fin⟩) hs
theorem ix_tup : IxR X (rIxT X.K) := by
  intro value slice pins s σ H x y v u Q I rx ry h hs
  obtain ⟨p, xs, i, z, rfl, rfl, hq, he, q⟩ := h
  cases rx
  obtain ⟨t, rfl⟩ := ry
  obtain ⟨its, r, pl, hz⟩ := I.tuple hq
  obtain ⟨j, h1, h2, h3, h4, h5⟩ := atI_get he
  obtain ⟨w, ew, rw'⟩ := r.get h2
  have hl := r.length
  have hn := line63
  have fin : EP X pins σ Q w s := ⟨z, H, I, rw', q⟩
  exact subscriptTail_builtinR (x := w) pl.typeIs slot_tuple_getitem.lookup
    (getItem_tuple (j := j) (Q := fun r s' => r = w ∧ EP X pins σ Q r s') pl (by omega) (by omega) (by rw [List.size_toArray, ← hl]; exact h1) (by simpa using ew) ⟨rfl, fin⟩) hs
theorem ix_str : IxR X rIxS := by
  intro value slice pins s σ H x y v u Q I rx ry h hs
  obtain ⟨z, i, c, rfl, rfl, hz, he, q⟩ := h
  obtain ⟨t, rfl⟩ := rx
  obtain ⟨t', rfl⟩ := ry
  obtain ⟨j, h1, h2, h3, h4, h5⟩ := atI_get he
  have hl : z.cps.toList.length = z.length := by simp [Str.length]
  rw [hl] at h1 h4 h5
  have hn := line63
  exact tail_any (typeIs_str s z t) slot_str_getitem.lookup (getItem_str (c := c) (by
    have e1 : decide (i < -(2 ^ 63 : Int)) = false := decide_eq_false (by omega)
    have e2 : decide (i ≥ 2 ^ 63) = false := decide_eq_false (by omega)
    rw [e1, e2, Bool.or_false]) (by rw [h1]; simpa using h2) ⟨.str ⟨#[c]⟩, H, I.tok _, ⟨_, rfl⟩, q⟩) hs
def rIx (K : PySem.W.Frag) : R2 := fun x y H Q => rIxL K x y H Q ∨ rIxT K x y H Q ∨ rIxS x y H Q
theorem ix_seq : IxR X (rIx X.K) := ix_list.or (ix_tup.or ix_str)

def flatV : V → Bool
  | .non => true
  | .bl _ => true
  | .int _ => true
  | .str _ => true
  | _ => false
def eqV : V → V → Bool
  | .non, .non => true
  | .bl a, .bl b => a == b
  | .bl a, .int b => (if a then 1 else 0) == b
  | .int a, .bl b => a == (if b then 1 else 0)
  | .int a, .int b => a == b
  | .str a, .str b => a == b
  | _, _ => false
theorem eqAt_V {A : Around} {s : Shared} {y x : V} {u v : Value} (ry : RelV y u) (rx : RelV x v) (fy : flatV y = true) (fx : flatV x = true) : SeqAt.EqAt A s u v (eqV y x) := by
  cases y with
  | non =>
    cases ry
    cases x with
    | non => cases rx; exact SeqAt.EqAt.same _
    | bl b => cases rx; exact SeqAt.EqAt.none_bool b
    | int b => obtain ⟨t, rfl⟩ := rx; exact SeqAt.EqAt.none_int b t
    | str b => obtain ⟨t, rfl⟩ := rx; exact SeqAt.EqAt.none_str b t
    | _ => exact absurd (show false = true from fx) Bool.false_ne_true
  | bl a =>
    cases ry
    cases x with
    | non => cases rx; exact SeqAt.EqAt.bool_none a
    | bl b => cases rx; exact SeqAt.EqAt.bool_bool a b
    | int b => obtain ⟨t, rfl⟩ := rx; exact SeqAt.EqAt.bool_int a b t
    | str b => obtain ⟨t, rfl⟩ := rx; exact SeqAt.EqAt.bool_str a b t
    | _ => exact absurd (show false = true from fx) Bool.false_ne_true
  | int a =>
    obtain ⟨t', rfl⟩ := ry
    cases x with
    | non => cases rx; exact SeqAt.EqAt.int_none a t'
    | bl b => cases rx; exact SeqAt.EqAt.int_bool a t' b
    | int b => obtain ⟨t, rfl⟩ := rx; exact SeqAt.EqAt.int_int a t' b t
    | str b => obtain ⟨t, rfl⟩ := rx; exact SeqAt.EqAt.int_str a t' b t
    | _ => exact absurd (show false = true from fx) Bool.false_ne_true
  | str a =>
    obtain ⟨t', rfl⟩ := ry
    cases x with
    | non => cases rx; exact SeqAt.EqAt.str_none a t'
    | bl b => cases rx; exact SeqAt.EqAt.str_bool a t' b
    | int b => obtain ⟨t, rfl⟩ := rx; exact SeqAt.EqAt.str_int a t' b t
    | str b => obtain ⟨t, rfl⟩ := rx; exact SeqAt.EqAt.str_str a t' b t
    | _ => exact absurd (show false = true from fx) Bool.false_ne_true
  | _ => exact absurd (show false = true from fy) Bool.false_ne_true
theorem call_len_seq : CallR X (.builtin "len") (fun xs H Q => ∃ p ys, xs = [.ref p] ∧ (SqL X.K H p ys ∨ SqT X.K H p ys) ∧ Q (.int ys.length) H) := by
  intro pins s σ H xs us Q I r h
  obtain ⟨p, ys, rfl, hq, q⟩ := h
  obtain ⟨u, rfl, rx⟩ := vals1 r
  cases rx
  have hn := line63
  rcases hq with hq | hq
  · obtain ⟨its, r', pl, hz⟩ := I.list hq
    have hlen := r'.length
    exact Calls.call_len_list pl.isList (by simp only [List.size_toArray] <;> omega) ⟨.int ys.length, H, I.tok _, ⟨s.toks + 1, by rw [List.size_toArray, hlen]⟩, q⟩
  · obtain ⟨its, r', pl, hz⟩ := I.tuple hq
    have hlen := r'.length
    exact len_tuple pl (by simp only [List.size_toArray] <;> omega) ⟨.int ys.length, H, I.tok _, ⟨s.toks + 1, by rw [List.size_toArray, hlen]⟩, q⟩
theorem call_list_of : CallR X (.type "list") (fun xs H Q => ∃ p ys, xs = [.ref p] ∧ (SqL X.K H p ys ∨ SqT X.K H p ys) ∧ ∀ l, H l = none → Q (.ref l) (upd H l (.lst ys))) := by
  intro pins s σ H xs us Q I r h
  obtain ⟨p, ys, rfl, hq, q⟩ := h
  obtain ⟨u, rfl, rx⟩ := vals1 r
  cases rx
  have fin : ∀ (its : List Value), Vals ys its → ys.length ≤ sizeLine → ∀ (h' : Heap) (c' : Nat), (∀ b o', s.heap.get? b = some o' → h'.get? b = some o') →
      h'.get? s.heap.objs.size = some { cls := .type "list", dict := none, data := .seq its.toArray c', slots := #[] } → EP X pins σ Q (.ref s.heap.objs.size) { s with heap := h' } := fun its r' hz h' c' kp e =>
    ⟨.ref s.heap.objs.size, _, I.laid (t' := s.toks) kp (Nat.le_refl _) (show ObjOk X.prog X.w _ h' _ (.lst ys) from ⟨hz, its, c', r', e⟩), rfl, q _ (I.hok.fresh (Nat.le_refl _))⟩
  rcases hq with hq | hq
  · obtain ⟨its, r', pl, hz⟩ := I.list hq
    have hlen := r'.length
    obtain ⟨o, ho, hc, n, hd⟩ := pl.isList
    exact call_list_seq p (.inl rfl) ho hc hd (fun h' c' kp e => fin its r' hz h' c' kp e) (by simp only [List.size_toArray] <;> omega)
  · obtain ⟨its, r', pl, hz⟩ := I.tuple hq
    have hlen := r'.length
    obtain ⟨o, ho, hc, n, hd⟩ := pl
    exact call_list_seq p (.inr rfl) ho hc hd (fun h' c' kp e => fin its r' hz h' c' kp e) (by simp only [List.size_toArray] <;> omega)
theorem call_tuple_of : CallR X (.type "tuple") (fun xs H Q => ∃ p ys, xs = [.ref p] ∧ ((SqL X.K H p ys ∧ ∀ l, H l = none → Q (.ref l) (upd H l (.tup ys))) ∨ (SqT X.K H p ys ∧ Q (.ref p) H))) := by
  intro pins s σ H xs us Q I r h
  obtain ⟨p, ys, rfl, h⟩ := h
  obtain ⟨u, rfl, rx⟩ := vals1 r
  cases rx
  rcases h with ⟨hq, q⟩ | ⟨hq, q⟩
  · obtain ⟨its, r', pl, hz⟩ := I.list hq
    have hlen := r'.length
    refine call_tuple_list pl.isList (fun h' kp => ?_) (by simp only [List.size_toArray] <;> omega)
    have I1 : Inv X pins σ H { s with heap := h' } := I.kept (t' := s.toks) kp
    have I2 : Inv X pins σ (upd H h'.objs.size (.tup ys)) { s with heap := h'.push { cls := .type "tuple", data := .seq its.toArray } } :=
      I1.laid (t' := s.toks) (fun b o e => Heap.get?_push_of_some _ e) (Nat.le_refl _) (show ObjOk X.prog X.w _ _ _ (.tup ys) from ⟨hz, its, r', IsTupN.new _ _⟩)
    exact ⟨.ref h'.objs.size, _, I2, rfl, q _ (I1.hok.fresh (Nat.le_refl _))⟩
  · obtain ⟨its, r', pl, hz⟩ := I.tuple hq
    exact call_tuple_same pl ⟨.ref p, H, I, rfl, q⟩

def tyV (K : PySem.W.Frag) (T : String) (x : V) (H : Hp) : Prop := match x with
  | .str _ => T = "str"
  | .int _ => T = "int"
  | .ref p => (T = "list" ∧ ∃ xs, SqL K H p xs) ∨ (T = "tuple" ∧ ∃ o, K.lookup p = some o ∧ o.cls = .type "tuple" ∧ o.dict = none) ∨
      (T = "dict" ∧ ((∃ kvs, H p = some (.dK kvs)) ∨ ∃ kvs, H p = some (.dT kvs))) ∨ (T = "set" ∧ ∃ S n, H p = some (.set S n))
  | _ => False
theorem tyV_is {pins : List (Addr × Obj)} {σ : St} {H : Hp} {s : Shared} {T : String} {x : V} {v : Value} (I : Inv X pins σ H s) (r : RelV x v) (ty : tyV X.K T x H) :
    s.TypeIs v T ∧ ∀ a, v = .ref a → ∃ ob, s.heap.get? a = some ob ∧ ob.dict = none := by
  cases x with
  | str z =>
    obtain ⟨t, rfl⟩ := r
    cases (show T = "str" from ty)
    exact ⟨typeIs_str s z t, fun _ e => nomatch e⟩
  | int i =>
    obtain ⟨t, rfl⟩ := r
    cases (show T = "int" from ty)
    exact ⟨typeIs_int s i t, fun _ e => nomatch e⟩
  | ref p =>
    cases r
    rcases ty with ⟨rfl, xs, hq⟩ | ⟨rfl, o, hk, hc, hd⟩ | ⟨rfl, hk⟩ | ⟨rfl, S, n, hk⟩
    · obtain ⟨its, _, pl, _⟩ := I.list hq
      refine ⟨pl.isList.typeIs, fun a e => ?_⟩
      cases e
      obtain ⟨o, n, e, c, hd, _⟩ := pl
      exact ⟨o, e, hd⟩
    · refine ⟨⟨o, I.kIn p o hk, hc⟩, fun a e => ?_⟩
      cases e
      exact ⟨o, I.kIn _ o hk, hd⟩
    · have z : ∃ o, s.heap.get? p = some o ∧ o.ExactDict := by
        rcases hk with ⟨kvs, hk⟩ | ⟨kvs, hk⟩
        · obtain ⟨_, _, _, _, o, _, _, e, ex, _⟩ := I.hok p _ hk
          exact ⟨o, e, ex⟩
        · obtain ⟨_, _, _, _, o, _, _, e, ex, _⟩ := I.hok p _ hk
          exact ⟨o, e, ex⟩
      obtain ⟨o, e, ex⟩ := z
      refine ⟨⟨o, e, ex.1⟩, fun a e2 => ?_⟩
      cases e2
      exact ⟨o, e, ex.2.1⟩
    · obtain ⟨o, _, _, _, e, ex, _⟩ := I.hok p _ hk
      refine ⟨⟨o, e, ex.1⟩, fun a e2 => ?_⟩
      cases e2
      exact ⟨o, e, ex.2.1⟩
  | _ => exact False.elim ty
def tBM0 (K : PySem.W.Frag) (T : String) (r : V → List V → Hp → VK → Prop) (to : TE) : TE := fun σ H Q => to σ H fun x H1 => tyV K T x H1 ∧ r x [] H1 Q
def tBM (K : PySem.W.Frag) (T : String) (r : V → List V → Hp → VK → Prop) (to : TE) (t : TA) : TE := fun σ H Q => to σ H fun x H1 => tyV K T x H1 ∧ t σ H1 fun xs H2 => r x xs H2 Q
variable {o e : Expr} {es : List Expr} {to : TE} {t : TA} {name : Str} {apos cpos : Pos} {T id : String} {r : V → List V → Hp → VK → Prop}
theorem pe_bm0 (pa : PlainAttrs T) (slot : Slot T name id) (hty : typeOf (.builtin id) = pure (.type "method_descriptor")) (hm : MtR X id r) (ho : PE X o to)
    (hbase : attributeBase o name X.env (eval o X.env) = eval o X.env := by rfl) (hline : (apos.endLine == cpos.line) = true := by rfl) : PE X (.Call (.Attribute o name apos) [] [] cpos) (tBM0 X.K T r to) := by
  intro pins s σ H Q I h
  refine wpAny_Call_method0_late hbase hline (thn (ho pins s σ H _ I h) fun v s1 ⟨x, H1, I1, r1, ty, q1⟩ => ?_)
  obtain ⟨h1, h2⟩ := tyV_is I1 r1 ty
  exact ⟨T, id, pa, slot, hty, h1, h2, Calls.callWith_builtin rfl (PySem.evalArgs_none (hm pins s1 σ H1 x [] v [] Q I1 r1 .nil q1))⟩
theorem pe_bm (pa : PlainAttrs T) (slot : Slot T name id) (hty : typeOf (.builtin id) = pure (.type "method_descriptor")) (hm : MtR X id r) (ho : PE X o to) (ha : PA X (e :: es) t)
    (hbase : attributeBase o name X.env (eval o X.env) = eval o X.env := by rfl)
    (hfew : ((backTo cpos (starEach (e :: es) X.env)).all (fun x => !x.1) && (backToKw cpos (keywordEach [] X.env)).all (fun x => x.1.isSome)
      && decide ((e :: es).length + ([] : List Keyword).length + (if ([] : List Keyword).isEmpty then 0 else 1) < 30)) = true := by rfl)
    (hline : (apos.endLine == cpos.line) = true := by rfl) (hs : starEach (e :: es) X.env = (false, eval e X.env) :: starEach es X.env := by rfl) (hplain : (backTo cpos (starEach es X.env)).any (·.1) = false := by rfl) :
    PE X (.Call (.Attribute o name apos) (e :: es) [] cpos) (tBM X.K T r to t) := by
  intro pins s σ H Q I h
  refine wpAny_Call_method_late hbase hfew hline rfl (thn (ho pins s σ H _ I h) fun v s1 ⟨x, H1, I1, r1, ty, q1⟩ => ?_)
  obtain ⟨h1, h2⟩ := tyV_is I1 r1 ty
  refine ⟨T, id, pa, slot, hty, h1, h2, ?_⟩
  have hA := ha cpos pins s1 σ H1 _ I1 q1
  rw [hs] at hA ⊢
  refine Calls.callWith_builtin (by show (false || (backTo cpos (starEach es X.env)).any (·.1)) = false; rw [hplain] <;> rfl) (Calls.evalArgs_plain ?_)
  exact thn hA fun us s2 ⟨vs, H2, I2, r2, q2⟩ => hm pins s2 σ H2 x vs v us Q I2 r1 r2 q2
/- xs.append(e), list.index on a module's tuple .. are MtR facts of 06m -/
end
end L2

namespace L2
open PySem PySem.Spec PyProof.Rows

def MtM (X : Cx) (id : String) (r : V → List V → Hp → VK → Prop) : Prop :=
  ∀ (pins : List (Addr × Obj)) (s : Shared) (σ : St) (H : Hp) (x : V) (xs : List V) (v : Value) (us : List Value) (Q : VK), Inv X pins σ H s → RelV x v → Vals xs us → r x xs H Q →
    wpAny (model X.prog X.w) X.A (call (.builtin id) (v :: us)) (EP X pins σ Q) X.xe s

theorem Vals.one : ∀ {x : V} {us : List Value}, Vals [x] us → ∃ u, us = [u] ∧ RelV x u
  | _, _, .cons r .nil => ⟨_, rfl, r⟩
theorem Vals.two : ∀ {x y : V} {us : List Value}, Vals [x, y] us → ∃ u v, us = [u, v] ∧ RelV x u ∧ RelV y v
  | _, _, _, .cons r (.cons q .nil) => ⟨_, _, rfl, r, q⟩
section
variable {X : Cx} {pins : List (Addr × Obj)} {σ : St} {H : Hp} {s : Shared} {l b : Addr} {xs ys zs : List V}

theorem Inv.lset {its its' : List Value} {n : Nat} {f : Array Value → Array Value} {t' : Nat} (I : Inv X pins σ H s) (hH : H l = some (.lst xs))
    (e : s.heap.get? l = some { cls := .type "list", data := .seq its.toArray n }) (hf : f its.toArray = its'.toArray) (hv : Vals ys its') (hz : ys.length ≤ sizeLine) :
    Inv X pins σ (upd H l (.lst ys)) { s with heap := s.heap.update l (Obj.mapSeq f), toks := t' } := by
  have q := PySem.IsL.update e f
  rw [hf] at q
  refine I.write (x := l) (e := l) (by rw [hH]; exact trivial) (.inl rfl) (fun b' u hb hu => (Heap.get?_update_other s.heap (Obj.mapSeq f) (Ne.symm hb)).trans hu) ⟨_, q⟩ ?_
  exact ⟨hz, its', _, hv, q⟩
theorem Inv.lnew {its : List Value} {t' : Nat} (I : Inv X pins σ H s) (hv : Vals ys its) (hz : ys.length ≤ sizeLine) :
    Inv X pins σ (upd H s.heap.objs.size (.lst ys)) { s with heap := s.heap.push { cls := .type "list", data := .seq its.toArray }, toks := t' } :=
  I.laid (fun _ _ q => Heap.get?_push_of_some _ q) (Nat.le_refl _) ⟨hz, its, 0, hv, Heap.get?_push_size _ rfl⟩
theorem Inv.fresh (I : Inv X pins σ H s) : H s.heap.objs.size = none := I.hok.fresh (Nat.le_refl _)
theorem Inv.lstM (I : Inv X pins σ H s) (hH : H l = some (.lst xs)) : xs.length ≤ sizeLine ∧ ∃ (its : List Value) (n : Nat), Vals xs its ∧ xs.length = its.length ∧ s.heap.get? l = some { cls := .type "list", data := .seq its.toArray n } := by
  obtain ⟨z, its, n, r, e⟩ := I.hok l _ hH
  exact ⟨z, its, n, r, r.length, e⟩

end

section
variable {X : Cx}

def rAppend : V → List V → Hp → VK → Prop := fun x vs H Q => ∃ l xs y, x = .ref l ∧ vs = [y] ∧ H l = some (.lst xs) ∧ xs.length < sizeLine ∧ Q .non (upd H l (.lst (xs ++ [y])))
theorem mt_append : MtM X "list.append" rAppend := by
  intro pins s σ H x vs v us Q I rx rv h
  obtain ⟨l, xs, y, rfl, rfl, hH, hz, q⟩ := h
  cases rx
  obtain ⟨u, rfl, ru⟩ := rv.one
  obtain ⟨z, its, n, r, hl, e⟩ := I.lstM hH
  refine call_meets F.slot_list_append ⟨_, e, rfl⟩ F.entry_list_append (F.args_list_append_2 _ _) (PySem.list_append l its.toArray n u (by rw [List.size_toArray]; omega)) ⟨e, ?_⟩
  refine ⟨.non, _, I.lset (its' := its ++ [u]) hH e (by simp) (r.append (.cons ru .nil)) ?_, rfl, q⟩
  rw [List.length_append, List.length_singleton]
  omega

def rCat : R2 := fun x y H Q => ∃ l b xs zs, x = .ref l ∧ y = .ref b ∧ H l = some (.lst xs) ∧ H b = some (.lst zs) ∧ xs.length + zs.length ≤ sizeLine ∧ ∀ p, H p = none → Q (.ref p) (upd H p (.lst (xs ++ zs)))
theorem op_cat : OpR X (binaryOp .Add) rCat := by
  intro pins s σ H x y v u Q I rx ry h
  obtain ⟨l, b, xs, zs, rfl, rfl, hH, hB, hz, q⟩ := h
  cases rx
  cases ry
  obtain ⟨z, its, n, r, hl, e⟩ := I.lstM hH
  obtain ⟨z2, its2, n2, r2, hl2, e2⟩ := I.lstM hB
  refine PySem.P.add_list e e2 ?_ (by rw [List.size_toArray, List.size_toArray]; omega)
  have ea : its.toArray ++ its2.toArray = (its ++ its2).toArray := by simp
  rw [ea]
  exact ⟨.ref _, _, I.lnew (t' := s.toks) (r.append r2) (by rw [List.length_append]; omega), rfl, q _ I.fresh⟩
end

section
variable {prog : Program} {w : World} {A : Around} {E : Value → Shared → Prop} {s : Shared}
end

section
variable {X : Cx}
end
end L2



set_option Elab.async false
set_option linter.all false
set_option maxRecDepth 100000
namespace L2
open PySem PySem.Spec PyProof.Rows

section
variable {κ : Type} [DecidableEq κ]
def valV (kvs : List (κ × V)) (k : κ) : Option V := (kvs.find? fun kv => decide (kv.1 = k)).map (·.2)
def putK (kvs : List (κ × V)) (k : κ) (v : V) : List (κ × V) :=
  if (kvs.any fun kv => decide (kv.1 = k)) = true then kvs.map (fun kv => if kv.1 = k then (kv.1, v) else kv) else kvs ++ [(k, v)]
theorem valV_pos {p : κ × V} {r : List (κ × V)} {k : κ} (e : p.1 = k) : valV (p :: r) k = some p.2 := by simp [valV, List.find?_cons, e]
theorem valV_neg {p : κ × V} {r : List (κ × V)} {k : κ} (e : ¬ p.1 = k) : valV (p :: r) k = valV r k := by simp [valV, List.find?_cons, e]
theorem valV_any (k : κ) : ∀ kvs : List (κ × V), (kvs.any fun kv => decide (kv.1 = k)) = (valV kvs k).isSome
  | [] => rfl
  | p :: r => by
    rw [List.any_cons]
    by_cases e : p.1 = k
    · simp only [valV_pos e, decide_eq_true e, Bool.true_or, Option.isSome_some]
    · rw [valV_neg e, decide_eq_false e, Bool.false_or]; exact valV_any k r
theorem length_putK (kvs : List (κ × V)) (k : κ) (v : V) : (putK kvs k v).length ≤ kvs.length + 1 := by
  unfold putK
  split
  · rw [List.length_map]; omega
  · rw [List.length_append, List.length_cons, List.length_nil]; omega
theorem putK_new {kvs : List (κ × V)} {k : κ} (v : V) (h : valV kvs k = none) : putK kvs k v = kvs ++ [(k, v)] := by
  unfold putK
  rw [valV_any, h]
  exact if_neg (by decide)

theorem RelO.isSome_eq {o : Option V} {u : Option Value} (r : RelO o u) : o.isSome = u.isSome := by
  cases o with
  | none => cases u with
    | none => rfl
    | some _ => exact (show False from r).elim
  | some _ => cases u with
    | none => exact (show False from r).elim
    | some _ => rfl
theorem RelO.getD {o : Option V} {u : Option Value} {d : V} {d' : Value} (r : RelO o u) (rd : RelV d d') : RelV (o.getD d) (u.getD d') := by
  cases o with
  | none => cases u with
    | none => exact rd
    | some _ => exact (show False from r).elim
  | some _ => cases u with
    | none => exact (show False from r).elim
    | some _ => exact r

theorem KV.val {kvs : List (κ × V)} {vs : List (κ × Value)} (r : KV kvs vs) (k : κ) : RelO (valV kvs k) (valueAt vs k) := by
  unfold KV at r
  induction r with
  | nil => exact True.intro
  | @cons p q ps qs h t ih =>
    obtain ⟨h1, h2⟩ := h
    by_cases e : p.1 = k
    · have e' : q.1 = k := h1.symm.trans e
      have b : valueAt (q :: qs) k = some q.2 := by simp [valueAt, List.find?_cons, e']
      rw [valV_pos e, b]; exact h2
    · have e' : ¬ q.1 = k := fun z => e (h1.trans z)
      have b : valueAt (q :: qs) k = valueAt qs k := by simp [valueAt, List.find?_cons, e']
      rw [valV_neg e, b]; exact ih
theorem KV.any {kvs : List (κ × V)} {vs : List (κ × Value)} (r : KV kvs vs) (k : κ) : (kvs.any fun kv => decide (kv.1 = k)) = vs.any fun kv => decide (kv.1 = k) := by
  unfold KV at r
  induction r with
  | nil => rfl
  | cons h t ih => rw [List.any_cons, List.any_cons, ih, h.1]
theorem KV.repl {kvs : List (κ × V)} {vs : List (κ × Value)} (r : KV kvs vs) (k : κ) {y : V} {u : Value} (ry : RelV y u) :
    KV (kvs.map fun kv => if kv.1 = k then (kv.1, y) else kv) (vs.map fun kv => if kv.1 = k then (kv.1, u) else kv) := by
  unfold KV at r ⊢
  induction r with
  | nil => exact .nil
  | @cons p q ps qs h t ih =>
    rw [List.map_cons, List.map_cons]
    refine .cons ?_ ih
    obtain ⟨h1, h2⟩ := h
    by_cases e : p.1 = k
    · rw [if_pos e, if_pos (h1.symm.trans e)]; exact ⟨h1, ry⟩
    · rw [if_neg e, if_neg (fun z => e (h1.trans z))]; exact ⟨h1, h2⟩
theorem KV.put {kvs : List (κ × V)} {vs : List (κ × Value)} (r : KV kvs vs) (k : κ) {y : V} {u : Value} (ry : RelV y u) : KV (putK kvs k y) (stored vs k u) := by
  unfold putK stored
  rw [r.any k]
  by_cases e : (vs.any fun kv => decide (kv.1 = k)) = true
  · rw [if_pos e, if_pos e]; exact r.repl k ry
  · rw [if_neg e, if_neg e]; exact Paired.snoc r ⟨rfl, ry⟩
theorem KV.keys {kvs : List (κ × V)} {vs : List (κ × Value)} (r : KV kvs vs) : kvs.map (·.1) = vs.map (·.1) := by
  unfold KV at r
  induction r with
  | nil => rfl
  | cons h t ih => rw [List.map_cons, List.map_cons, ih, h.1]
theorem KV.length {kvs : List (κ × V)} {vs : List (κ × Value)} (r : KV kvs vs) : kvs.length = vs.length := Paired.length r
end


theorem kV_is {P : Program} {w : World} {k : Key} {u : Value} (r : RelV (kV k) u) : (mixKind P w).is k u = true := by
  cases k with
  | inl i => obtain ⟨t, e⟩ := (show ∃ t, u = Value.int i t from r); subst e; exact mixKind_int P w i t
  | inr x => obtain ⟨t, e⟩ := (show ∃ t, u = Value.str x t from r); subst e; exact mixKind_str P w x t
theorem items_are {P : Program} {w : World} : ∀ {ks : List Key} {us : List Value}, Vals (ks.map kV) us → ItemsAre (mixKind P w) ks us
  | [], _, r => by rw [List.map_nil] at r; cases r; exact .nil
  | k :: ks, _, r => by
    rw [List.map_cons] at r
    cases r with
    | cons h t => exact .cons (kV_is h) (items_are t)

abbrev KT (H : Hp) : List (List Key × V) → List (List Key × Addr × Value) → Prop := Paired fun p q => p.1 = q.1 ∧ H q.2.1 = some (.tup (p.1.map kV)) ∧ RelV p.2 q.2.2
theorem KT.val {H : Hp} {kvs : List (List Key × V)} {xs : List (List Key × Addr × Value)} (r : KT H kvs xs) (k : List Key) : RelO (valV kvs k) ((atKey xs k).map (·.2)) := by
  induction r with
  | nil => exact True.intro
  | @cons p q ps qs h t ih =>
    obtain ⟨h1, _, h2⟩ := h
    by_cases e : p.1 = k
    · have e' : q.1 = k := h1.symm.trans e
      have b : atKey (q :: qs) k = some q.2 := by simp [atKey, List.find?_cons, e']
      rw [valV_pos e, b]; exact h2
    · have e' : ¬ q.1 = k := fun z => e (h1.trans z)
      have b : atKey (q :: qs) k = atKey qs k := by simp [atKey, List.find?_cons, e']
      rw [valV_neg e, b]; exact ih
theorem KT.repl {H : Hp} {kvs : List (List Key × V)} {xs : List (List Key × Addr × Value)} (r : KT H kvs xs) (k : List Key) {y : V} {u : Value} (ry : RelV y u) :
    KT H (kvs.map fun kv => if kv.1 = k then (kv.1, y) else kv) (xs.map (putAt k u)) := by
  induction r with
  | nil => exact .nil
  | @cons p q ps qs h t ih =>
    rw [List.map_cons, List.map_cons]
    refine .cons ?_ ih
    obtain ⟨h1, h2, h3⟩ := h
    unfold putAt
    by_cases e : p.1 = k
    · rw [if_pos e, if_pos (h1.symm.trans e)]; exact ⟨h1, h2, ry⟩
    · rw [if_neg e, if_neg (fun z => e (h1.trans z))]; exact ⟨h1, h2, h3⟩
theorem KT.put {H : Hp} {kvs : List (List Key × V)} {xs : List (List Key × Addr × Value)} (r : KT H kvs xs) (k : List Key) {b : Addr} {y : V} {u : Value} (hb : H b = some (.tup (k.map kV))) (ry : RelV y u) :
    KT H (putK kvs k y) (storedH xs k b u) := by
  have e : (kvs.any fun kv => decide (kv.1 = k)) = (atKey xs k).isSome := by
    rw [valV_any, (r.val k).isSome_eq, Option.isSome_map]
  unfold putK storedH
  rw [e]
  by_cases q : (atKey xs k).isSome = true
  · rw [if_pos q, if_pos q]; exact r.repl k ry
  · rw [if_neg q, if_neg q]; exact Paired.snoc r ⟨rfl, hb, ry⟩
theorem KT.keeps {H H' : Hp} {kvs : List (List Key × V)} {xs : List (List Key × Addr × Value)} (r : KT H kvs xs) (ht : ∀ b ys, H b = some (.tup ys) → H' b = some (.tup ys)) : KT H' kvs xs :=
  Paired.mapP r fun _ _ z => ⟨z.1, ht _ _ z.2.1, z.2.2⟩

section
variable {P : Program} {w : World} {H : Hp} {h : Heap} {a : Addr}
theorem rd_of {u : HO} (ok : HOk P w H h) (e : Rd H a u) : ObjOk P w H h a u := e.ok ok
theorem dk_rd {kvs : List (Key × V)} (ok : HOk P w H h) (e : Rd H a (.dK kvs)) : kvs.length ≤ sizeLine ∧ (a == sysModules) = false ∧ ∃ vs, KV kvs vs ∧ h.DictOf (mixKind P w) a vs :=
  show ObjOk P w H h a (.dK kvs) from rd_of ok e
theorem dk_of {kvs : List (Key × V)} (ok : HOk P w H h) (e : H a = some (.dK kvs)) : kvs.length ≤ sizeLine ∧ (a == sysModules) = false ∧ ∃ vs, KV kvs vs ∧ h.DictOf (mixKind P w) a vs := dk_rd ok (.inl e)
theorem key_of {ks : List Key} (ok : HOk P w H h) (e : H a = some (.tup (ks.map kV))) : (tupleKind (mixKind P w)).is h ks a := by
  obtain ⟨_, its, r, o, h1, h2, n, h3⟩ := (show ObjOk P w H h a (.tup (ks.map kV)) from ok a _ e)
  exact ⟨o, its.toArray, n, h1, h2.1, h3, by simpa using items_are r⟩
theorem dt_rd {kvs : List (List Key × V)} (ok : HOk P w H h) (e : Rd H a (.dT kvs)) : kvs.length ≤ sizeLine ∧ (a == sysModules) = false ∧
    ∃ xs, KT H kvs xs ∧ h.DictOfH (tupleKind (mixKind P w)) a xs := by
  obtain ⟨z, y, xs, r, o, es, ep, h1, h2, h3, h4, h5⟩ := (show ObjOk P w H h a (.dT kvs) from rd_of ok e)
  refine ⟨z, y, xs, r, o, es, ep, h1, h2, h3, h4, fun x hx => ?_, h5⟩
  have all : ∀ {l : List (List Key × V)} {m : List (List Key × Addr × Value)}, KT H l m → ∀ x ∈ m, (tupleKind (mixKind P w)).is h x.1 x.2.1 := by
    intro l m q
    induction q with
    | nil => intro x hx; exact nomatch hx
    | @cons p q ps qs hq t ih =>
      intro x hx
      rcases List.mem_cons.mp hx with e | hx
      · subst e
        exact key_of ok (by rw [← hq.1]; exact hq.2.1)
      · exact ih x hx
  exact all r x hx
theorem dt_of {kvs : List (List Key × V)} (ok : HOk P w H h) (e : H a = some (.dT kvs)) : kvs.length ≤ sizeLine ∧ (a == sysModules) = false ∧
    ∃ xs, KT H kvs xs ∧ h.DictOfH (tupleKind (mixKind P w)) a xs := dt_rd ok (.inl e)
end

def DGet (H : Hp) (a : Addr) (y : V) (r : Option V) : Prop :=
  (∃ kvs k, Rd H a (.dK kvs) ∧ y = kV k ∧ r = valV kvs k) ∨ ∃ kvs k b, Rd H a (.dT kvs) ∧ y = .ref b ∧ H b = some (.tup (k.map kV)) ∧ r = valV kvs k
def DPut (H : Hp) (a : Addr) (y v : V) (H' : Hp) : Prop :=
  (∃ kvs k, H a = some (.dK kvs) ∧ y = kV k ∧ kvs.length < sizeLine ∧ H' = upd H a (.dK (putK kvs k v))) ∨
  ∃ kvs k b, H a = some (.dT kvs) ∧ y = .ref b ∧ H b = some (.tup (k.map kV)) ∧ kvs.length < sizeLine ∧ H' = upd H a (.dT (putK kvs k v))
theorem DGet.k {H : Hp} {a : Addr} {kvs : List (Key × V)} {k : Key} (e : H a = some (.dK kvs)) : DGet H a (kV k) (valV kvs k) := .inl ⟨kvs, k, .inl e, rfl, rfl⟩
theorem DPut.k {H : Hp} {a : Addr} {kvs : List (Key × V)} {k : Key} {v : V} (e : H a = some (.dK kvs)) (hl : kvs.length < sizeLine) : DPut H a (kV k) v (upd H a (.dK (putK kvs k v))) := .inl ⟨kvs, k, e, rfl, hl, rfl⟩
section
variable {X : Cx} {pins : List (Addr × Obj)} {σ : St} {H : Hp} {s : Shared} {a : Addr} {y v : V} {u r : Value} {o : Option V} {A : Around} {E : Value → Shared → Prop}

theorem Inv.big (I : Inv X pins σ H s) : sysModules < s.heap.objs.size := by
  have h : mainGlobals < s.heap.objs.size := (I.mod.glob.keeps I.bk).lt
  exact Nat.lt_trans (by decide) h

theorem d_getItem {Q : Value → Shared → Prop} (hu : A.units + 1 < cLine) (I : Inv X pins σ H s) (g : DGet H a y (some v)) (ry : RelV y u) (h : ∀ w' s', Inv X pins σ H s' → RelV v w' → Q w' s') :
    wpAny (model X.prog X.w) A (getItem (.ref a) u) Q E s := by
  rcases g with ⟨kvs, k, e, ey, l⟩ | ⟨kvs, k, b, e, ey, eb, l⟩
  · subst ey
    obtain ⟨z, hd, vs, rel, dd⟩ := dk_rd I.hok e
    obtain ⟨w', hw, rw'⟩ := RelO.some_of (v := v) (o := valueAt vs k) (by rw [l]; exact rel.val k)
    exact wpAny_getItem_of (kV_is ry) dd.mapOf hw (h w' _ (I.tok _) rw')
  · subst ey
    cases (show u = Value.ref b from ry)
    obtain ⟨z, hd, xs, rel, dd⟩ := dt_rd I.hok e
    obtain ⟨w', hw, rw'⟩ := RelO.some_of (v := v) (o := (atKey xs k).map (·.2)) (by rw [l]; exact rel.val k)
    obtain ⟨p, hp, hp2⟩ := Option.map_eq_some_iff.mp hw
    refine wpAny_getItem_heap (tupleKind_room_in1 hu) (key_of I.hok eb) dd hp ?_
    rw [hp2]
    exact h w' _ (I.tok _) rw'
theorem d_write {h' : Heap} {t' : Nat} {ob : HO} (I : Inv X pins σ H s) (mu : Mut (H a)) (hs : Heap.SameBut a s.heap h') (he : ∃ q, h'.get? a = some q) (new : ObjOk X.prog X.w (upd H a ob) h' a ob) :
    Inv X pins σ (upd H a ob) { s with heap := h', toks := t' } :=
  I.write (x := a) (e := a) mu (.inl rfl) (fun b q hb z => (hs.2 b hb).trans z) he new
theorem dk_new {P : Program} {w : World} {H' : Hp} {h' : Heap} {kvs : List (Key × V)} {vs : List (Key × Value)} (z : kvs.length ≤ sizeLine) (hd : (a == sysModules) = false) (rel : KV kvs vs) (dd : h'.DictOf (mixKind P w) a vs) :
    ObjOk P w H' h' a (.dK kvs) := ⟨z, hd, vs, rel, dd⟩
theorem d_setItem {H' : Hp} {Q : Unit → Shared → Prop} (hu : A.units + 1 < cLine) (I : Inv X pins σ H s) (g : DPut H a y v H') (ry : RelV y u) (rv : RelV v r) (h : ∀ s', Inv X pins σ H' s' → Q () s') :
    wpAny (model X.prog X.w) A (setItem (.ref a) u r) Q E s := by
  rcases g with ⟨kvs, k, e, ey, l, eH⟩ | ⟨kvs, k, b, e, ey, eb, l, eH⟩
  · subst ey eH
    obtain ⟨z, hd, vs, rel, dd⟩ := dk_of I.hok e
    have hz : vs.length ≤ sizeLine := by rw [← rel.length]; exact z
    have hl : (putK kvs k v).length ≤ sizeLine := by have := length_putK kvs k v; omega
    refine wpAny_setItem_pairs (hsz := hz) (kV_is ry) dd fun h' dd' hs => h _ ?_
    have he : ∃ q, h'.get? a = some q := let ⟨q, _, _, hq, _⟩ := dd'; ⟨q, hq⟩
    exact d_write I (by rw [e]; exact True.intro) hs he (dk_new hl hd (rel.put k rv) dd')
  · subst ey eH
    cases (show u = Value.ref b from ry)
    obtain ⟨z, hd, xs, rel, dd⟩ := dt_of I.hok e
    have hz : xs.length ≤ sizeLine := by rw [← Paired.length rel]; exact z
    have hl : (putK kvs k v).length ≤ sizeLine := by have := length_putK kvs k v; omega
    refine wpAny_setItem_heap (hsz := hz) (tupleKind_room_in1 hu) (key_of I.hok eb) dd fun h' dd' hs => h _ ?_
    obtain ⟨q, es, ep, hq, h2, h3, h4, _, h5⟩ := dd'
    refine d_write I (by rw [e]; exact True.intro) hs ⟨q, hq⟩ ⟨hl, hd, _, (rel.put k eb rv).keeps fun c ys ec => ?_, q, es, ep, hq, h2, h3, h4, h5⟩
    rw [upd_ne (ne_of ec e (fun z => nomatch z))]
    exact ec
end

section
variable {X : Cx} {pins : List (Addr × Obj)} {σ : St} {H : Hp} {s : Shared} {a : Addr} {kvs : List (Key × V)} {k : Key} {u : Value} {A : Around} {E : Value → Shared → Prop}
end


def NoSl (i : Expr) : Prop := ∀ ov iv, subscripted i false ov iv = operate [ov, iv] (getItem ov iv)
theorem subD_of {prog : Program} {w : World} {A : Around} {E : Value → Shared → Prop} {s : Shared} {env : Env} {value slice : Expr} {pos : Pos} {T id : String} {Q : Value → Shared → Prop}
    (hl : typeLookup (.type T) "__getitem__" = pure (some (.builtin id))) (hs : NoSl slice)
    (h : wpAny (model prog w) A (eval value env) (fun o s₁ => wpAny (model prog w) A (eval slice env) (fun i s₂ => s₂.TypeIs o T ∧ wpAny (model prog w) A (getItem o i) Q E s₂) E s₁) E s) :
    wpAny (model prog w) A (eval (.Subscript value slice pos) env) Q E s := by
  refine Subscript_ (wpAny_mono h (fun o s₁ h₁ => wpAny_mono h₁ (fun i s₂ h₂ => ?_) fun _ _ x => x) fun _ _ x => x)
  obtain ⟨hT, h₂⟩ := h₂
  unfold subscriptTail
  refine wpAny_bind ?_
  rw [getitemInPython_of_ne hT.not_modules]
  refine wpAny_bind (wpAny_specialOf hT hl ?_)
  have fin : wpAny (model prog w) A (subscripted slice false o i) (fun r s₃ => wpAny (model prog w) A (letTemporaryGo value o r >>= fun _ => pure r) Q E s₃) E s₂ := by
    rw [hs o i]
    exact wpAny_operating (wpAny_mono h₂ (fun r s₃ h₃ => wpAny_bind (wpAny_letTemporaryGo (wpAny_pure h₃))) fun _ _ x => x)
  first
    | exact wpAny_pure (wpAny_bind fin)
    | exact wpAny_bind (wpAny_pure (wpAny_bind fin))
    | exact wpAny_bind fin

theorem dict_typeIs {X : Cx} {pins : List (Addr × Obj)} {σ : St} {H : Hp} {s : Shared} {a : Addr} {y : V} {o : Option V} (I : Inv X pins σ H s) (g : DGet H a y o) : s.TypeIs (.ref a) "dict" := by
  rcases g with ⟨kvs, k, e, _, _⟩ | ⟨kvs, k, b, e, _, _, _⟩
  · obtain ⟨_, _, vs, _, dd⟩ := dk_rd I.hok e
    exact dd.typeIs
  · obtain ⟨_, _, xs, _, dd⟩ := dt_rd I.hok e
    exact dd.typeIs
def tDGet (td ty : TE) : TE := fun σ H Q => td σ H fun x H1 => ty σ H1 fun y H2 => ∃ a v, x = .ref a ∧ DGet H2 a y (some v) ∧ Q v H2
def sDPut (td ty tv : TE) : TS := fun D σ H => tv σ H fun v H1 => td σ H1 fun x H2 => ty σ H2 fun y H3 => ∃ a H4, x = .ref a ∧ DPut H3 a y v H4 ∧ D.nx σ H4
section
variable {X : Cx} {o i e value : Expr} {pos pos' tpos : Pos} {td ty tv : TE}
theorem pe_dget (hu : X.A.units + 1 < cLine) (ho : PE X o td) (hi : PE X i ty) (hs : NoSl i) : PE X (.Subscript o i pos) (tDGet td ty) := by
  intro pins s σ H Q I h
  refine subD_of PySem.F.slot_dict_getitem.lookup hs (thn (ho pins s σ H _ I h) fun u s1 ⟨x, H1, I1, rx, q1⟩ => thn (hi pins s1 σ H1 _ I1 q1) fun iv s2 ⟨y, H2, I2, ry, a, v, ex, g, q2⟩ => ?_)
  subst ex
  obtain rfl : u = Value.ref a := rx
  exact ⟨dict_typeIs I2 g, d_getItem hu I2 g ry fun w' s3 I3 rw' => ⟨v, H2, I3, rw', q2⟩⟩
theorem ps_dput (hu : X.A.units + 1 < cLine) (ho : PE X o td) (hi : PE X i ty) (hv : PE X value tv) (hs : swapsWith value (some (.Subscript o i pos')) pos.line X.env = pure false) :
    PS X (.Assign [.Subscript o i pos'] value pos) (sDPut td ty tv) := by
  intro pins s σ H D I h
  refine wpAny_Assign_Subscript (thn (hv pins s σ H _ I h) fun r s1 ⟨v, H1, I1, rv, q1⟩ => thn (ho pins s1 σ H1 _ I1 q1) fun u s2 ⟨x, H2, I2, rx, q2⟩ => thn (hi pins s2 σ H2 _ I2 q2) fun iv s3 ⟨y, H3, I3, ry, a, H4, ex, g, q3⟩ => ?_) hs
  subst ex
  obtain rfl : u = Value.ref a := rx
  exact d_setItem hu I3 g ry rv fun s4 I4 => ⟨σ, H4, I4, q3⟩
end


theorem dk_empty {P : Program} {w : World} {H : Hp} (h : Heap) (hb : sysModules < h.objs.size) : ObjOk P w H (h.push { cls := .type "dict", data := .dict #[] }) h.objs.size (.dK []) :=
  ⟨Nat.zero_le _, beq_eq_false_iff_ne.mpr (Ne.symm (Nat.ne_of_lt hb)), [], .nil, Heap.DictOf.new h⟩
def tDNewK : TE := fun _ H Q => ∀ p, H p = none → Q (.ref p) (upd H p (.dK []))
section
variable {X : Cx} {pos : Pos}
theorem pe_dnewK : PE X (.Dict [] [] pos) tDNewK := fun pins s σ H Q I h =>
  wpAny_Dict_empty ⟨.ref s.heap.objs.size, _, I.laid (a := s.heap.objs.size) (o := .dK []) (t' := s.toks) (fun _ _ q => Heap.get?_push_of_some _ q) (Nat.le_refl _) (dk_empty s.heap I.big), rfl, h _ (I.hok.fresh (Nat.le_refl _))⟩
end

def mergeK (kvs more : List (Key × V)) : List (Key × V) := more.foldl (fun acc kv => putK acc kv.1 kv.2) kvs
theorem KV.merge : ∀ {more : List (Key × V)} {rs : List (Key × Value)} {kvs : List (Key × V)} {vs : List (Key × Value)}, KV more rs → KV kvs vs → KV (mergeK kvs more) (merged vs rs) := by
  intro more rs kvs vs r
  unfold KV at r
  induction r generalizing kvs vs with
  | nil => intro q; exact q
  | @cons p q ps qs h t ih =>
    intro r0
    have e : KV (putK kvs p.1 p.2) (stored vs q.1 q.2) := by
      have := r0.put p.1 h.2
      rw [← h.1]; exact this
    exact ih e
theorem length_mergeK : ∀ (more kvs : List (Key × V)), (mergeK kvs more).length ≤ kvs.length + more.length
  | [], kvs => by show kvs.length ≤ kvs.length + 0; omega
  | p :: r, kvs => by
    have h1 := length_mergeK r (putK kvs p.1 p.2)
    have h2 := length_putK kvs p.1 p.2
    show (mergeK (putK kvs p.1 p.2) r).length ≤ _
    rw [List.length_cons]; omega
structure M2 (X : Cx) (o : Expr) (m : Str) (apos : Pos) (e f : Expr) (cpos : Pos) : Prop where
  base : attributeBase o m X.env (eval o X.env) = eval o X.env
  few : ((backTo cpos (starEach [e, f] X.env)).all (fun x => !x.1) && (backToKw cpos (keywordEach [] X.env)).all (fun x => x.1.isSome)
    && decide (([e, f] : List Expr).length + ([] : List Keyword).length + (if ([] : List Keyword).isEmpty then 0 else 1) < 30)) = true
  line : (apos.endLine == cpos.line) = true
  trees : backTo cpos (starEach [e, f] X.env) = [(false, eval e X.env), (false, eval f X.env)]

def IsD (H : Hp) (a : Addr) : Prop := (∃ kvs, Rd H a (.dK kvs)) ∨ ∃ kvs, Rd H a (.dT kvs)
theorem isD_at {X : Cx} {pins : List (Addr × Obj)} {σ : St} {H : Hp} {s : Shared} {a : Addr} (I : Inv X pins σ H s) (d : IsD H a) :
    s.TypeIs (.ref a) "dict" ∧ (∀ b, Value.ref a = .ref b → ∃ ob, s.heap.get? b = some ob ∧ ob.dict = none) ∧ (a == sysModules) = false := by
  rcases d with ⟨kvs, e⟩ | ⟨kvs, e⟩
  · obtain ⟨_, hd, vs, _, dd⟩ := dk_rd I.hok e
    refine ⟨dd.typeIs, fun b q => ?_, hd⟩
    cases q
    obtain ⟨ob, _, _, h1, h2, _⟩ := dd
    exact ⟨ob, h1, h2.2.1⟩
  · obtain ⟨_, hd, xs, _, dd⟩ := dt_rd I.hok e
    refine ⟨dd.typeIs, fun b q => ?_, hd⟩
    cases q
    obtain ⟨ob, _, _, h1, h2, _⟩ := dd
    exact ⟨ob, h1, h2.2.1⟩

section
variable {X : Cx} {pins : List (Addr × Obj)} {σ : St} {H : Hp} {s : Shared} {a : Addr} {y d : V} {u r : Value} {o : Option V} {A : Around} {E : Value → Shared → Prop}
theorem d_get2 {Q : Value → Shared → Prop} (hu : A.units + 1 < cLine) (I : Inv X pins σ H s) (g : DGet H a y o) (ry : RelV y u) (rd : RelV d r) (h : ∀ w' s', Inv X pins σ H s' → RelV (o.getD d) w' → Q w' s') :
    wpAny (model X.prog X.w) A (call (.builtin "dict.get") [.ref a, u, r]) Q E s := by
  rcases g with ⟨kvs, k, e, ey, l⟩ | ⟨kvs, k, b, e, ey, eb, l⟩
  · subst ey
    obtain ⟨z, hd, vs, rel, dd⟩ := dk_rd I.hok e
    refine call_meetsIn PySem.F.slot_dict_get dd.typeIs PySem.F.entry_dict_get (PySem.F.args_dict_get_3 _ _ _) (meets_dict_get_default (mixKind X.prog X.w) a (kV_is ry) hd r) ⟨_, dd.mapOf, h _ _ (I.tok _) ?_⟩
    rw [l]
    exact (rel.val k).getD rd
  · subst ey
    cases (show u = Value.ref b from ry)
    obtain ⟨z, hd, xs, rel, dd⟩ := dt_rd I.hok e
    refine call_meetsIn PySem.F.slot_dict_get dd.typeIs PySem.F.entry_dict_get (PySem.F.args_dict_get_3 _ _ _) (meetsH_dict_get_default (tupleKind (mixKind X.prog X.w)) a b hd r) ⟨tupleKind_room_in1 hu, k, xs, key_of I.hok eb, dd, h _ _ (I.tok _) ?_⟩
    rw [l]
    exact (rel.val k).getD rd
end

def tDGet2 (td ty tx : TE) : TE := fun σ H Q => td σ H fun x H1 => ∃ a, x = .ref a ∧ IsD H1 a ∧ ty σ H1 fun y H2 => tx σ H2 fun z H3 => ∃ o, DGet H3 a y o ∧ Q (o.getD z) H3
section
variable {X : Cx} {o e f : Expr} {apos cpos : Pos} {td ty tx : TE}
theorem pe_dget2 (hu : X.A.units + 1 < cLine) (ho : PE X o td) (he : PE X e ty) (hf : PE X f tx) (m : M2 X o "get" apos e f cpos) : PE X (.Call (.Attribute o "get" apos) [e, f] [] cpos) (tDGet2 td ty tx) := by
  intro pins s σ H Q I h
  refine wpAny_Call_method m.base m.few m.line PySem.F.plainAttrs_dict PySem.F.slot_dict_get PySem.F.type_dict_get (thn (ho pins s σ H _ I h) fun u s1 ⟨x, H1, I1, rx, a, ex, d, q1⟩ => ?_)
  subst ex
  obtain rfl : u = Value.ref a := rx
  obtain ⟨t1, t2, _⟩ := isD_at I1 d
  refine ⟨t1, t2, ?_⟩
  rw [m.trees]
  refine Calls.callWith_builtin rfl (Calls.evalArgs_plain (Calls.spliced_cons (thn (he pins s1 σ H1 _ I1 q1) fun iv s2 ⟨y, H2, I2, ry, q2⟩ =>
    Calls.spliced_cons (thn (hf pins s2 σ H2 _ I2 q2) fun fv s3 ⟨z, H3, I3, rz, ov, g, q3⟩ => Calls.spliced_nil ?_))))
  exact d_get2 hu I3 g ry rz fun w' s4 I4 rw' => ⟨_, H3, I4, rw', q3⟩
end

section
variable {X : Cx} {pins : List (Addr × Obj)} {σ : St} {H : Hp} {s : Shared} {a : Addr} {kvs : List (Key × V)} {A : Around} {E : Value → Shared → Prop}
end


section
variable {X : Cx} {pins : List (Addr × Obj)} {σ : St} {H : Hp} {s : Shared} {a : Addr} {y : V} {u : Value} {A : Around} {E : Value → Shared → Prop}
end
end L2



set_option Elab.async false
set_option linter.all false
set_option maxRecDepth 100000
namespace Att
open PySem PySem.W PySem.Calls PyProof.Rows

theorem ints_of_wellAll {P : Params} {h : Heap} : ∀ (ns : List Int) (vs : List Value), WellAll P h vs (ns.map WData.int) → IntsAre vs ns := by
  intro ns
  induction ns with
  | nil =>
    intro vs w
    rw [List.map_nil] at w
    cases w
    exact .nil
  | cons n ns ih =>
    intro vs w
    rw [List.map_cons] at w
    cases w with
    | cons a b =>
      cases a
      exact .cons _ _ (ih _ b)

theorem script_of {l : OpenLaw} {n : Nat} (hn : l.most = some n) {P : Params} {h : Heap} {args : List WData} {vals : List Value}
    (hpre : l.row.toRowW.claim.pre args = true) (hwl : WellAll P h vals args) :
    ∃ a vs ns, vals = [Value.ref a] ∧ args = [WData.list (ns.map WData.int)] ∧ h.get? a = some { cls := .type "list", data := .seq vs.toArray } ∧ IntsAre vs ns ∧ ns.length ≤ n := by
  have hsh : WShape.hasAll [] args [.list .int] = true := (pre_splitW hpre).1
  have hc : l.pre.holds [] { args := args } = true := (pre_splitW hpre).2
  obtain ⟨d, r, rfl, h1, h2⟩ := hasAllW_cons hsh
  obtain rfl := hasAllW_nil h2
  obtain ⟨xs, rfl, h3⟩ := hasW_list h1
  obtain ⟨ns, rfl⟩ := items_int h3
  have hlen : ns.length ≤ n := by
    unfold OpenLaw.pre at hc
    have h4 : (WTm.not (.lt (.lit (.int (n : Int))) (.len (.arg 0)))).holds [] { args := [.list (ns.map .int)] } = true := by
      have h4 := (holds_andW hc).1
      rw [hn] at h4
      exact h4
    have h5 := condW_of h4 (w_not (w_lt w_lit (w_len_list (w_arg rfl))))
    rw [List.length_map] at h5
    refine Nat.le_of_not_lt fun q => ?_
    have q' : (n : Int) < ((ns.length : Nat) : Int) := by omega
    first
      | (rw [decide_eq_true q'] at h5; exact absurd h5 (by decide))
      | (simp at h5; omega)
  cases hwl with
  | cons w1 w2 =>
    cases w2
    cases w1 with
    | list ho hall => exact ⟨_, _, ns, rfl, rfl, ho, ints_of_wellAll ns _ hall, hlen⟩

theorem post_true (l : OpenLaw) (args : List WData) : l.row.toRowW.claim.post args (.bool true) args = true :=
  postW_of (r := l.row.toRowW) (X := (true == true))
    (show WShape.has [] (.bool true) .bool = true by first | rfl | decide | simp [WShape.has, WShape.arms, WShape.armsAll])
    (show (WTm.eq .res (.lit (.bool true))).value [] { args := args, res := some (.bool true), after := args } = some (.bool (true == true)) from w_eq_bool (w_res rfl) w_lit) rfl

theorem attach_call {l : OpenLaw} {n : Nat} {q : Program} {loose : List Str} {XP : (Str → Option Value) → Heap → Prop} {YP : World → Heap → Prop} {d : DefRec}
    (hn : l.most = some n) (hdf : d.params.defaults = [])
    (call : ∀ (w : World) (s₀ s₁ : Shared) (mg mb : Str → Option Value) (fa : Addr) (o : Obj) (pm cd doc : Value) (a : Addr) (vs : List Value) (ns : List Int),
      Ground q loose [] XP w s₀ mg mb s₁.heap → YP w s₁.heap →
      s₁.heap.get? fa = some o → o.data = .func (docDef d.name d.params d.body d.scope pm cd doc) → s₁.heap.CodeRec cd d.name → mg d.name = some (.ref fa) →
      s₁.heap.get? a = some { cls := .type "list", data := .seq vs.toArray } → IntsAre vs ns → ns.length ≤ n → s₁.gens = #[] →
      codeAny (model l.prog w) callerA (.call (.ref fa) ⟨[.ref a], []⟩) (fun r s' => r = .ok (.ret (.bool true)) ∧ OldK s₁.heap s'.heap ∧ s'.os = s₁.os ∧ AllBare s'.gens) s₁) :
    WalkO q loose XP YP l.row.toRowW d [] (fun f vs => PySem.call f vs) := by
  intro w s₀ s₁ mg mb G Y fa o pm cd doc dV kV ho hd hcd hD hmg hg args vals as hpre hlay hrd hwl hlo
  obtain rfl : dV = .none := Dflts.none hD hdf
  obtain rfl : kV = .none := Dflts.noKw hD
  obtain ⟨a, vs, ns, rfl, rfl, hobj, hints, hlen⟩ := script_of hn hpre hwl
  refine enter_call (codeAny_mono (call w s₀ s₁ mg mb fa o pm cd doc a vs ns G Y ho (fd_plain hd) hcd hmg hobj hints hlen hg) fun r s' hq => ?_)
  obtain ⟨rfl, h2, h3, h4⟩ := hq
  exact ⟨.inl ⟨.bool true, .bool true, [], rfl, fun _ => rfl, .bool true, post_true l _, fun _ => ⟨List.Pairwise.nil, fun _ hm => (nomatch hm)⟩⟩, h2, h3, h4⟩

section
variable {prog : Program} {w : World} {A : Around} {E : Value → Shared → Prop} {s : Shared} {K : Frag}

end
end Att

namespace L2
open PySem PySem.Spec PyProof.Rows

theorem vals_ints : ∀ {vs : List Value} {ns : List Int}, IntsAre vs ns → Vals (ns.map V.int) vs
  | _, _, .nil => .nil
  | _, _, .cons n t h => .cons ⟨t, rfl⟩ (vals_ints h)

def Only (H : Hp) : Prop := ∀ b, H b = none ∨ ∃ o xs, H b = some (.frz o (.lst xs))

theorem law_call {P : Program} {w : World} {K : PySem.W.Frag} {mg mb : Str → Option Value} {CX : CXT} {k : Nat} {fa a : Addr} {fd : FuncData} {x : Str} {sp : Sp} {s₁ : Shared} {vs : List Value} {ns : List Int}
    (KX : K.In s₁.heap) (hns : s₁.heap.Ns mainGlobals mg) (hb : s₁.heap.Ns builtinsNs mb) (hbb : ∀ x : Str, x ≠ "__name__" → mb x = bootBuiltins x) (hlim : s₁.heap.NoLimit) (hg : s₁.gens = #[])
    (ha : s₁.heap.get? a = some { cls := .type "list", data := .seq vs.toArray }) (hi : IntsAre vs ns) (hl : ns.length ≤ sizeLine) (hr : Room k callerA)
    (F : ∀ base : Heap, K.In base → base.Ns mainGlobals mg → FnOk P w K mg base CX k fa fd [x] sp) (hbind : ∀ (s : Shared) (u : Value), BindsTo s fd ⟨[u], []⟩ [(x, u)])
    (hsp : ∀ H : Hp, Only H → SqL K H a (ns.map V.int) → sp [.ref a] H (fun v _ => v = .bl true) fun _ _ _ => False)
    (hCX : ∀ H e s', CX [] H s₁ (fun _ _ _ => False) e s' → False) :
    codeAny (model P w) callerA (.call (.ref fa) ⟨[.ref a], []⟩) (fun r s' => r = .ok (.ret (.bool true)) ∧ OldK s₁.heap s'.heap ∧ s'.os = s₁.os ∧ AllBare s'.gens) s₁ := by
  have rv := vals_ints hi
  have lenV := hi.length
  -- from an abstract heap in which nothing but the script may be tracked
  have core : ∀ H : Hp, Only H → SqL K H a (ns.map V.int) → HOk P w H s₁.heap → (∀ b, H b ≠ none → b = a) → (H a ≠ none → K.lookup a = none) →
      codeAny (model P w) callerA (.call (.ref fa) ⟨[.ref a], []⟩) (fun r s' => r = .ok (.ret (.bool true)) ∧ OldK s₁.heap s'.heap ∧ s'.os = s₁.os ∧ AllBare s'.gens) s₁ := by
    intro H hO hS hok hA hK
    have base_of : ∀ {b : Addr} {o : Obj}, s₁.heap.get? b = some o → H b = none → (hidT s₁.heap H).get? b = some o := fun e n => hidT_get e n
    have noA : ∀ {b : Addr} {o : Obj} {es : Array DictEntry} {ep : Nat}, s₁.heap.get? b = some o → o.data = .dict es ep → H b = none := fun {b o es ep} e d => by
      cases q : H b with
      | none => rfl
      | some u =>
        have e' : b = a := hA b (by rw [q]; simp)
        subst e'
        rw [ha] at e; cases e
        have d' : Data.seq vs.toArray _ = Data.dict es ep := d
        cases d'
    have nsK : ∀ {b : Addr} {m : Str → Option Value}, s₁.heap.Ns b m → (hidT s₁.heap H).Ns b m := fun {b m} ⟨o, es, ep, e, d, r⟩ => ⟨o, es, ep, base_of e (noA e d), d, r⟩
    have hKb : K.In (hidT s₁.heap H) := fun b o e => base_of (KX b o e) (by
      cases q : H b with
      | none => rfl
      | some u =>
        have e' : b = a := hA b (by rw [q]; simp)
        subst e'
        rw [hK (by rw [q]; simp)] at e; cases e)
    have hM : Mod K mg (hidT s₁.heap H) := ⟨hKb, nsK hns, ⟨mb, nsK hb, hbb⟩, let ⟨mc, h1, h2⟩ := hlim; ⟨mc, nsK h1, h2⟩⟩
    have e0 : Env0 P w K mg (hidT s₁.heap H) callerA [] s₁ H := ⟨rfl, hM, fun b o e => of_hidT e, Nat.le_of_eq (hidT_size _ _), trivial, fun b hb => absurd (show b ∈ ([] : List Addr) from hb) (by simp), hok, .of_eq hg⟩
    refine codeAny_mono ((F _ hKb (nsK hns)).run callerA [] s₁ H ⟨[.ref a], []⟩ [.ref a] [.ref a] _ _ hr e0 (hbind s₁ (.ref a)) (.cons rfl .nil) (hsp H hO hS)) fun r s' h => ?_
    cases r with
    | error e => exact (hCX H e s' h).elim
    | ok fl =>
      cases fl with
      | next => exact False.elim h
      | brk => exact False.elim h
      | cont => exact False.elim h
      | ret u =>
        obtain ⟨v, H', os, bare, un, hok', r', q⟩ := h
        have q' : v = .bl true := q
        subst q'
        obtain rfl : u = Value.bool true := r'
        refine ⟨rfl, OldK.of_keep fun b o e => ?_, os, bare⟩
        cases q : H b with
        | none => exact un.keep b o e q (by intro z; exact absurd (show b ∈ ([] : List Addr) from z) (by simp)) (by simp)
        | some u =>
          rcases hO b with z | ⟨ob, xs, z⟩
          · rw [q] at z; cases z
          · have z2 := un.frzs b ob _ z
            obtain ⟨e1, _⟩ := hok b _ z
            obtain ⟨e2, _⟩ := hok' b _ z2
            rw [e] at e1; cases e1
            exact e2
  cases hk : K.lookup a with
  | some o =>
    -- the script is one of the module's own objects
    have e := KX a o hk
    rw [ha] at e
    cases e
    refine core (fun _ => none) (fun _ => .inl rfl) (.inr ⟨_, vs.toArray, _, hk, rfl, rfl, rfl, by rw [List.size_toArray, lenV]; exact hl, by simpa using rv⟩) (fun b u z => by have z' : (none : Option HO) = some u := z; cases z') (fun b z => absurd rfl z) fun z => absurd rfl z
  | none =>
    refine core (fun b => if b = a then some (.frz { cls := .type "list", data := .seq vs.toArray } (.lst (ns.map V.int))) else none) (fun b => ?_) (.inl (.inr ⟨{ cls := .type "list", data := .seq vs.toArray }, if_pos rfl⟩)) (fun b u z => ?_) (fun b z => ?_) fun _ => hk
    · by_cases hb : b = a
      · exact .inr ⟨_, _, if_pos hb⟩
      · exact .inl (if_neg hb)
    · by_cases hb : b = a
      · have z' := (if_pos hb).symm.trans z
        cases z'
        subst hb
        exact ⟨ha, by rw [List.length_map]; exact hl, vs, _, rv, ha⟩
      · have z' := (if_neg hb).symm.trans z
        cases z'
    · by_cases hb : b = a
      · exact hb
      · exact absurd (if_neg hb) z
end L2

namespace L2
open PySem PySem.Spec PyProof.Rows

theorem walk_of {l : PySem.W.OpenLaw} {n k : Nat} {q : Program} {loose : List Str} {XP : (Str → Option Value) → Heap → Prop} {YP : World → Heap → Prop} {d : DefRec} {K : Params → PySem.W.Frag} {CX : World → CXT} {sp : World → Sp} {x : Str}
    (hn : l.most = some n) (hn2 : n ≤ sizeLine) (hdf : d.params.defaults = []) (hr : Room k callerA)
    (hY : ∀ (w : World) (h : Heap), YP w h → (K w.params).In h)
    (F : ∀ (w : World) (mg : Str → Option Value) (fa : Addr) (h : Heap), (K w.params).In h → h.Ns mainGlobals mg → mg d.name = some (.ref fa) →
      ∃ fd : FuncData, (∀ (s : Shared) (u : Value), BindsTo s fd ⟨[u], []⟩ [(x, u)]) ∧
        ∀ base : Heap, (K w.params).In base → base.Ns mainGlobals mg → FnOk l.prog w (K w.params) mg base (CX w) k fa fd [x] (sp w))
    (hsp : ∀ (w : World) (H : Hp) (a : Addr) (ns : List Int), ns.length ≤ n → Only H → SqL (K w.params) H a (ns.map V.int) → sp w [.ref a] H (fun v _ => v = .bl true) fun _ _ _ => False)
    (hCX : ∀ (w : World) (H : Hp) (s : Shared) (e : Value) (s' : Shared), CX w [] H s (fun _ _ _ => False) e s' → False) :
    PySem.W.WalkO q loose XP YP l.row.toRowW d [] (fun f vs => PySem.call f vs) := by
  refine Att.attach_call hn hdf fun w s₀ s₁ mg mb fa o pm cd doc a vs ns G Y ho hd hcd hmg hobj hints hlen hg => ?_
  have KX := hY w _ Y
  obtain ⟨fd, hb, hF⟩ := F w mg fa _ KX G.T.g hmg
  exact law_call KX G.T.g G.T.b G.T.builtins G.T.nolimit hg hobj hints (Nat.le_trans hlen hn2) hr hF hb (fun H hO hS => hsp w H a ns hlen hO hS) fun H e s' => hCX w H s₁ e s'
end L2

/- THE LAST THEOREM (shape; LID, My.* are yours):
   My.Adr: a structure of the addresses that your layer names (classes, functions); My.Txt K t: a structure (Prop) of the equations over K;
   My.txt_mk : {K} {implicit addresses ..} (e1 : nsIn K mainGlobals "law" = some (some (.ref f))) (e2 : K.lookup f = some ⟨oc, od, .func (fnOf "law" "law" params body scope dV kV doc pm an cdv ct), sl⟩) (e3 : codeIn K cdv "law" = true) .. : ∃ t, My.Txt K t

set_option maxRecDepth 100000 in
set_option maxHeartbeats 0 in
theorem PySem.Challenge.cw_LID_holds : PySem.Challenge.rw_LID.Holds := by
  w_on; o_law; k_head; (case hw => w_witness2)
  k_fill
  refine L2.walk_of (l := PySem.Challenge.rw_LID) (n := 63) (k := 40) (x := "script") (CX := fun w => ..) (sp := fun _ => My.sp_law) rfl (by decide) rfl ⟨rfl, by decide, by decide⟩ (fun w h Y => PySem.W.kIn_of Y) ?F ?S ?C
  case F =>
    intro w mg fa h KX G hmg
    have T : ∃ t, My.Txt (L2.KOf KX) t := by
      dsimp only [L2.KOf]                          -- K must stand as «<heap const> w.params» for k_is
      refine' My.txt_mk ?e1 ?e2 ?e3 ..
      (case e1 => PySem.W.k_is)                    -- in the order: a name -> its address -> its object -> its parts
      (case e2 => PySem.W.k_is)
      ..
    obtain ⟨t, T⟩ := T
    have e0 := hmg.symm.trans (PySem.W.mg_of KX G T.law)
    cases e0                                       -- fa is the law's own address
    exact ⟨_, fun s u => .of_eq rfl, fun base kb nb => My.law_fn T kb nb⟩     -- if «.of_eq rfl» comes too early: refine' ⟨_, ?b, fun base kb nb => My.law_fn T kb nb⟩; exact fun s u => .of_eq rfl
  case S => exact fun w H a ns hl hO hS => ..
  case C => exact ..
(the tactic k_is has no namespace: write k_is) -/

namespace L2
open PySem PySem.Spec PyProof.Rows

def defArgs (s : Stmt) : Arguments := match s with
  | .FunctionDef _ a _ _ _ _ _ _ _ _ => a
  | _ => { posonlyargs := [], args := [], vararg := none, kwonlyargs := [], kw_defaults := [], kwarg := none, defaults := [] }
def defBody (s : Stmt) : List Stmt := match s with
  | .FunctionDef _ _ b _ _ _ _ _ _ _ => b
  | _ => []
def defScope (s : Stmt) : Scope := match s with
  | .FunctionDef _ _ _ _ _ _ sc _ _ _ => sc
  | _ => { kind := .function, names := [], isGenerator := false, isCoroutine := false }

abbrev CX0 : CXT := fun _ _ _ _ _ _ => False
abbrev E0 : XK := fun _ _ _ => False
theorem pass0 {X : Cx} : Passes CX0 X E0 := fun _ _ _ _ _ _ _ h => h.elim

structure Fun (K : PySem.W.Frag) (x qual : Str) (st : Stmt) (f : Addr) (fd : FuncData) : Prop where
  ex : ∃ (oc : Value) (od : Option Addr) (kV doc pm : Value) (an : Option Addr) (cdv ct : Value) (osl : Array (Option Value)),
    fd = PySem.W.fnOf x qual (defArgs st) (defBody st) (defScope st) .none kV doc pm an cdv ct ∧ K.lookup f = some ⟨oc, od, .func fd, osl⟩ ∧ PySem.W.codeIn K cdv qual = true
  kp : PySem.W.keepIn K (.ref f) = true
section
variable {P : Program} {w : World} {K : PySem.W.Frag} {mg : Str → Option Value} {base : Heap}
theorem Fun.ok {x qual : Str} {st : Stmt} {f : Addr} {fd : FuncData} {N ps : List Str} {k : Nat} {sp : Sp} (F : Fun K x qual st f fd) (S : FnScope N ps (defScope st)) (len : ∀ vs H Q E, sp vs H Q E → vs.length = ps.length)
    (hbody : ∀ (cdv : Value) (A : Around) (outer : List Env) (s : Shared) (H : Hp) (vs : List V) (Q : VK) (E : XK), Room k (A.deeper (envOfC qual (defScope st) s.heap.objs.size f cdv)) → sp vs H Q E →
      ∃ t, PSs (cxOf CX0 P w K mg base N qual (defScope st) f cdv A outer s H E).nox (defBody st) t ∧ t { nx := fun _ H' => Q .non H', rt := Q } (start N vs) H) : FnOk P w K mg base CX0 (k + 1) f fd ps sp := by
  obtain ⟨oc, od, kV, doc, pm, an, cdv, ct, osl, rfl, lk, hcd⟩ := F.ex
  refine fn_of lk hcd S len fun A outer s H vs Q E hr hsp => ?_
  obtain ⟨t, h, q⟩ := hbody cdv A outer s H vs Q E hr hsp
  exact ⟨t, h.nox, q⟩
theorem Fun.binds {x qual : Str} {st : Stmt} {f : Addr} {fd : FuncData} {ps : List Str} (F : Fun K x qual st f fd)
    (h : ∀ (kV doc pm : Value) (an : Option Addr) (cdv ct : Value) (us : List Value), us.length = ps.length → bindArgs (PySem.W.fnOf x qual (defArgs st) (defBody st) (defScope st) .none kV doc pm an cdv ct) ⟨us, []⟩ = pure (ps.zip us)) : Binds K fd ps [] := by
  obtain ⟨oc, od, kV, doc, pm, an, cdv, ct, osl, rfl, lk, hcd⟩ := F.ex
  exact .all (h kV doc pm an cdv ct)
theorem fun_mk {x qual : Str} {st : Stmt} {f : Addr} {oc : Value} {od an : Option Addr} {osl : Array (Option Value)} {kV doc pm cdv ct : Value} (l : K.lookup f = some ⟨oc, od, .func (PySem.W.fnOf x qual (defArgs st) (defBody st) (defScope st) .none kV doc pm an cdv ct), osl⟩)
    (c : PySem.W.codeIn K cdv qual = true) (k : PySem.W.keepIn K (.ref f) = true) : Fun K x qual st f (PySem.W.fnOf x qual (defArgs st) (defBody st) (defScope st) .none kV doc pm an cdv ct) := ⟨⟨oc, od, kV, doc, pm, an, cdv, ct, osl, rfl, l, c⟩, k⟩
end
theorem hu_of {A : Around} {k : Nat} (hr : Room k A) : A.units + 1 < cLine := Nat.lt_of_le_of_lt (Nat.add_le_add_left (by decide : 1 ≤ 64) _) hr.units
section
variable {X : Cx}
theorem pv (i : Nat) {x : Str} {pos : Pos} (hN : X.N[i]? = some x := by rfl) (hv : Vis X.env.scope x := by first | exact Or.inl rfl | exact Or.inr (Or.inl rfl) | exact Or.inr (Or.inr rfl)) (hd : (x == ("__debug__" : Str)) = false := by decide)
    (hcd : (x == ("__classdict__" : Str)) = false := by decide) : PE X (.Name x pos) (tVar i) := pe_var hN hv hd hcd
end

theorem iteF {A B : Prop} (h : B) : if false = true then A else B := by
  rw [if_neg Bool.false_ne_true]
  exact h
theorem iteT {A B : Prop} (h : A) : if true = true then A else B := by
  rw [if_pos rfl]
  exact h
theorem ite2 {c A B : Prop} [Decidable c] (h1 : c → A) (h2 : ¬ c → B) : if c then A else B := by
  by_cases h : c
  · rw [if_pos h]
    exact h1 h
  · rw [if_neg h]
    exact h2 h
def Same (H H' : Hp) : Prop := ∀ b o, H b = some o → H' b = some o
theorem Same.trans {H H1 H2 : Hp} (a : Same H H1) (b : Same H1 H2) : Same H H2 := fun c o h => b c o (a c o h)
theorem Same.seq {K : PySem.W.Frag} {H H' : Hp} {a : Addr} {xs : List V} (e : Same H H') (h : SqL K H a xs) : SqL K H' a xs := by
  rcases h with (h | ⟨o, h⟩) | h
  · exact .inl (.inl (e _ _ h))
  · exact .inl (.inr ⟨o, e _ _ h⟩)
  · exact .inr h

section
variable {κ : Type} [DecidableEq κ]
end
end L2



set_option Elab.async false
set_option linter.all false
set_option maxRecDepth 100000
set_option maxHeartbeats 4000000
namespace L2
open PySem PySem.Spec PyProof.Rows

theorem ObjOk.there {P : Program} {w : World} {H : Hp} {h : Heap} {a : Addr} {o : HO} (x : ObjOk P w H h a o) : ∃ u, h.get? a = some u := by
  cases o with
  | lst xs => obtain ⟨_, _, _, _, e⟩ := x; exact ⟨_, e⟩
  | tup xs => obtain ⟨_, _, _, o, e, _⟩ := x; exact ⟨_, e⟩
  | dK kvs => obtain ⟨_, _, _, _, o, _, _, e, _⟩ := x; exact ⟨_, e⟩
  | dT kvs => obtain ⟨_, _, _, _, o, _, _, e, _⟩ := x; exact ⟨_, e⟩
  | set S n => obtain ⟨o, _, _, _, e, _⟩ := x; exact ⟨_, e⟩
  | ins C dx fs => obtain ⟨_, _, _, e, _⟩ := x; exact ⟨_, e⟩
  | own y => exact x
  | xd fs => obtain ⟨_, ⟨_, _, _, e, _⟩, _⟩ := x; exact ⟨_, e⟩
  | rng lo hi => obtain ⟨_, _, _, e⟩ := x; exact ⟨_, e⟩
  | frz ob u => obtain ⟨e, _⟩ := x; exact ⟨_, e⟩
  | tbl ps => exact ⟨_, x⟩
  | met f y => exact ⟨_, x⟩
  | ext φ => exact x.2.1

structure Fly (P : Program) (w : World) (outer : List Env) (H : Hp) (s : Shared) (H' : Hp) (B : Heap) (s' : Shared) : Prop where
  os : s'.os = s.os
  bare : AllBare s'.gens
  un : Un (frs outer) [] H H' s.heap s'.heap
  kb : ∀ b o, s.heap.get? b = some o → H b = none → b ∉ frs outer → B.get? b = some o
  kt : ∀ b o, s.heap.get? b = some o → b ∉ frs outer → ∃ o', B.get? b = some o'
  hok : HOk P w H' B
def CXF (P : Program) (w : World) : CXT := fun outer H s E e s' =>
  ∃ (ea : Addr) (cls a0 : Value) (H' : Hp) (B : Heap), e = .ref ea ∧ Fly P w outer H s H' B s' ∧ Heap.FlyingW B outer ea cls a0 s'.heap ∧ E cls none H'

section
variable {P : Program} {w : World} {outer : List Env} {H H' : Hp} {s s' : Shared} {B h2 base : Heap}
theorem Fly.land {ea : Addr} {cls a0 : Value} {l : List Env} (F : Fly P w outer H s H' B s') (fr : s.heap.FunFrames base outer) (frf : ∀ b ∈ frs outer, H b = none) (fl : Heap.FlyingW B l ea cls a0 h2) (up : s'.heap.UpToSlots h2) : Un (frs outer) [] H H' s.heap h2 := by
  have sl : ∀ b o, s.heap.get? b = some o → b ∈ frs outer → ∃ sl, h2.get? b = some { o with slots := sl } := fun b o e hb => by
    obtain ⟨_, o', ho', hd⟩ := fr.mem hb
    rw [e] at ho'
    cases ho'
    obtain ⟨sl, e1⟩ := F.un.slot b o e (frf b hb) hb (by simp)
    obtain ⟨sl', e2⟩ := up b _ e1 hd
    exact ⟨sl', e2⟩
  refine ⟨fun b o e n hb _ => fl.1 b o (F.kb b o e n hb), fun b o e n hb _ => sl b o e hb, F.un.free, fun b o e _ => ?_, F.un.tups, F.un.frzs, F.un.tbls⟩
  by_cases hb : b ∈ frs outer
  · obtain ⟨q, e1⟩ := sl b o e hb
    exact ⟨_, e1⟩
  · obtain ⟨o', e1⟩ := F.kt b o e hb
    exact ⟨o', fl.1 b o' e1⟩
end

def Raises (X : Cx) (E : St → XK) : Prop := ∀ (pins : List (Addr × Obj)) (σ : St) (H : Hp) (s : Shared) (ea : Addr) (cls : Value) (args : List Value) (h' : Heap),
  Inv X pins σ H s → Heap.MadeExcOf s.heap h' ea cls args → E σ cls none H → X.xe (.ref ea) { s with heap := h' }
def PassesS (CX : CXT) (X : Cx) (E : St → XK) : Prop := ∀ (pins : List (Addr × Obj)) (σ : St) (H : Hp) (s : Shared) (e : Value) (s' : Shared), Inv X pins σ H s → CX X.stack H s (E σ) e s' → X.xe e s'

section
variable {X : Cx} {pins : List (Addr × Obj)} {σ : St} {H : Hp} {s : Shared}
theorem Inv.notStk (I : Inv X pins σ H s) {b : Addr} {o : Obj} (e : X.s₀.heap.get? b = some o) (hb : b ∉ X.fs) : b ∉ frs X.stack := fun z => by
  rcases List.mem_cons.mp (I.stkSub b z) with q | q
  · exact absurd (Nat.lt_of_lt_of_le (Heap.lt_size e) I.ok.above) (by rw [q]; exact Nat.lt_irrefl _)
  · exact hb q
theorem Inv.fly (I : Inv X pins σ H s) {h' : Heap} {ea : Addr} {cls : Value} {args : List Value} (M : Heap.MadeExcOf s.heap h' ea cls args) :
    Fly X.prog X.w X.stack H s H (PySem.W.hideAll s.heap (frs X.stack)) { s with heap := h' } := by
  refine ⟨rfl, I.bare, Un.kept M.keeps, fun b o e _ hb => PySem.W.hideAll_get _ e hb, fun b o e hb => ⟨o, PySem.W.hideAll_get _ e hb⟩, fun a o e => ?_⟩
  refine (I.hok a o e).stay (fun b u hb q => PySem.W.hideAll_get _ q fun z => ?_) (fun _ q => q) fun _ _ q => q
  have n := I.stkFree b z
  rcases hb with rfl | hb
  · rw [n] at e; cases e
  · rw [n] at hb; cases hb
end

section
variable {P : Program} {w : World} {K : PySem.W.Frag} {mg : Str → Option Value} {base : Heap} {N : List Str} {qual : Str} {scope : Scope} {f : Addr} {cd : Value} {A : Around} {outer : List Env} {s : Shared} {H : Hp} {E : XK}
theorem fly_out {pins : List (Addr × Obj)} {σ : St} {H1 H' : Hp} {s1 s' : Shared} {B h2 : Heap} {ea : Addr} {cls a0 : Value} (I : Inv (cxOf (CXF P w) P w K mg base N qual scope f cd A outer s H E) pins σ H1 s1)
    (F : Fly P w (envOfC qual scope s.heap.objs.size f cd :: outer) H1 s1 H' B s') (fl : Heap.FlyingW B outer ea cls a0 h2) (up : s'.heap.UpToSlots h2) : Fly P w outer H s H' B { s' with heap := h2 } := by
  have u := F.land I.stack I.stkFree fl up
  have J := I.call (h' := h2) (g' := s'.gens) (t' := s'.toks) (d' := s'.drawn) (ch := []) u (F.hok.kept fl.1) F.bare (fun b z => absurd z (by simp))
  refine ⟨F.os.trans I.os, F.bare, J.base, fun b o e n hb => ?_, fun b o e hb => ?_, F.hok⟩
  · exact F.kb b o (I.base.keep b o e n hb (by simp [cxOf])) (I.base.free b o e n (by simp [cxOf])) (I.notStk e hb)
  · obtain ⟨o', e1⟩ := I.base.there b o e (by simp [cxOf])
    exact F.kt b o' e1 (I.notStk e hb)
theorem raises_fn : Raises (cxOf (CXF P w) P w K mg base N qual scope f cd A outer s H E) (fun _ => E) := by
  intro pins σ H1 s1 ea cls args h' I M hE
  have F := I.fly M
  show wpAny (model P w) _ (leaving (envOfC qual scope s.heap.objs.size f cd) (.ref ea)) _ _ _
  refine wpAny_leaves_madeW (base := PySem.W.hideAll s1.heap (frs (envOfC qual scope s.heap.objs.size f cd :: outer))) (h := s1.heap) I.ok.frames rfl (fun b o q => PySem.W.of_hideAll _ q)
    (PySem.W.funFrames_hide I.stack fun env he b hb => List.mem_filterMap.mpr ⟨env, he, hb⟩) M fun h2 t fl _ _ up => ?_
  exact ⟨ea, cls, .ref t, H1, _, rfl, fly_out I F fl up, fl, hE⟩
theorem passes_fn : PassesS (CXF P w) (cxOf (CXF P w) P w K mg base N qual scope f cd A outer s H E) (fun _ => E) := by
  intro pins σ H1 s1 e s' I h
  obtain ⟨ea, cls, a0, H', B, rfl, F, fl, hE⟩ := h
  show wpAny (model P w) _ (leaving (envOfC qual scope s.heap.objs.size f cd) (.ref ea)) _ _ s'
  refine wpAny_leaves_onW I.ok.frames rfl fl fun h2 fl' up => ?_
  exact ⟨ea, cls, a0, H', B, rfl, fly_out I F fl' up, fl', hE⟩
end

theorem Fun.okX {P : Program} {w : World} {K : PySem.W.Frag} {mg : Str → Option Value} {base : Heap} {x qual : Str} {st : Stmt} {f : Addr} {fd : FuncData} {N ps : List Str} {k : Nat} {sp : Sp} (F : Fun K x qual st f fd) (S : FnScope N ps (defScope st)) (len : ∀ vs H Q E, sp vs H Q E → vs.length = ps.length)
    (hbody : ∀ (cdv : Value) (A : Around) (outer : List Env) (s : Shared) (H : Hp) (vs : List V) (Q : VK) (E : XK), Room k (A.deeper (envOfC qual (defScope st) s.heap.objs.size f cdv)) → sp vs H Q E →
      ∃ t, PSs (cxOf (CXF P w) P w K mg base N qual (defScope st) f cdv A outer s H E) (defBody st) t ∧ t { nx := fun _ H' => Q .non H', rt := Q } (start N vs) H) : FnOk P w K mg base (CXF P w) (k + 1) f fd ps sp := by
  obtain ⟨oc, od, kV, doc, pm, an, cdv, ct, osl, rfl, lk, hcd⟩ := F.ex
  exact fn_of lk hcd S len fun A outer s H vs Q E hr hsp => hbody cdv A outer s H vs Q E hr hsp
theorem FnOk.cxf {P : Program} {w : World} {K : PySem.W.Frag} {mg : Str → Option Value} {base : Heap} {k : Nat} {f : Addr} {fd : FuncData} {ps : List Str} {sp : Sp} (F : FnOk P w K mg base CX0 k f fd ps sp) (CX : CXT) : FnOk P w K mg base CX k f fd ps sp :=
  ⟨F.len, fun A outer s H args us vs Q E hr he hb hv hs => codeAny_mono (F.run A outer s H args us vs Q E hr he hb hv hs) fun r s' q => by
    cases r with
    | error e => exact False.elim q
    | ok fl => cases fl <;> exact q⟩

def tCallS (sp : Sp) (dvs : List V) (E : St → XK) (t : TA) : TE := fun σ H Q => t σ H fun vs H1 => sp (vs ++ dvs) H1 Q (E σ)
section
variable {X : Cx} {CX : CXT} {k : Nat} {f C : Addr} {fd : FuncData} {ps : List Str} {sp : Sp} {dvs : List V} {ds : List Value} {E : St → XK} {x m : Str} {p pos apos : Pos} {e o : Expr} {es : List Expr} {ta : TE} {t : TA}
theorem run_fnS {pins : List (Addr × Obj)} {σ : St} {H : Hp} {s : Shared} {Q : VK} {us : List Value} {vs : List V} (F : FnOk X.prog X.w X.K X.mg X.base CX k f fd ps sp) (hr : Room k X.A) (hb : Binds X.K fd ps ds) (hd : Vals dvs ds) (hx : PassesS CX X E)
    (I : Inv X pins σ H s) (r : Vals vs us) (h : sp (vs ++ dvs) H Q (E σ)) : wpAny (model X.prog X.w) X.A (call (.ref f) us) (EP X pins σ Q) X.xe s := by
  have r2 : Vals (vs ++ dvs) (us ++ ds) := r.append hd
  have hl : (us ++ ds).length = ps.length := by rw [← r2.length]; exact F.len _ _ _ _ h
  refine wpAny_call (codeAny_mono (F.run X.A X.stack s H ⟨us, []⟩ (us ++ ds) (vs ++ dvs) Q (E σ) hr I.env0 (hb s us I.kIn hl) r2 h) fun r s' hq => ?_)
  cases r with
  | error e => exact hx pins σ H s e s' I hq
  | ok fl =>
    cases fl with
    | ret u => exact I.after hq
    | next => exact False.elim hq
    | brk => exact False.elim hq
    | cont => exact False.elim hq
theorem pe_callS (F : FnOk X.prog X.w X.K X.mg X.base CX k f fd ps sp) (hr : Room k X.A) (hg : Gl X x) (hm : X.mg x = some (.ref f)) (hk : PySem.W.keepIn X.K (.ref f) = true) (hb : Binds X.K fd ps ds) (hd : Vals dvs ds) (hx : PassesS CX X E)
    (ha : PA X (e :: es) t) (hdb : (x == ("__debug__" : Str)) = false := by decide) (he : starEach (e :: es) X.env = (false, eval e X.env) :: starEach es X.env := by rfl) (hpl : (backTo pos (starEach es X.env)).any (·.1) = false := by rfl) :
    PE X (.Call (.Name x p) (e :: es) [] pos) (tCallS sp dvs E t) := by
  intro pins s σ H Q I h
  refine wpAny_Call_Name_kw (ld_glob I hg hm ?_ hdb)
  refine PySem.W.callWith_K (h₀ := X.base) I.ok.mod.kin hk (thn (ha pos pins s σ H _ I h) fun us s1 ⟨vs, H1, I1, r, q⟩ => ⟨I1.kIn, ?_⟩) he hpl
  exact run_fnS F hr hb hd hx I1 r q
end

abbrev veB : List Value := [.type "ValueError", .type "Exception", .type "BaseException", .type "object"]
theorem excObj_of {K : PySem.W.Frag} {h : Heap} {C : Addr} {bmB : List Value} {newId : String} (X : K.In h) (q : PySem.W.excIn K C bmB newId = true) :
    ∃ bm N nm q bs hdct sn sub ab col dd k0 k1 k2 k3 k5 mN, h.get? C = some (excClassObj nm q C N bs bm hdct sn sub ab col dd k0 k1 k2 k3 k5 newId) ∧ h.Ns N mN ∧ mN "__init__" = none ∧ OwnTail h bmB bm := by
  unfold PySem.W.excIn at q
  split at q
  · rename_i dd cd sl ho
    split at q
    · rename_i C' bm k0 k1 k2 k3 n k5 hm hs
      simp only [Bool.and_eq_true, beq_iff_eq, Bool.not_eq_true'] at q
      obtain ⟨⟨⟨⟨⟨rfl, rfl⟩, hdel⟩, ht⟩, hok⟩, hni⟩ := q
      obtain ⟨nm, bs, mro, ns, qn, hd, sn, sub, ab, col, del⟩ := cd
      dsimp only at hm hdel hok hni
      subst hm hdel
      have hsl : sl = #[k0, k1, k2, k3, some (.builtin n), k5] := by
        obtain ⟨l⟩ := sl
        simp only at hs
        rw [hs]
      subst hsl
      exact ⟨bm, ns, nm, qn, bs, hd, sn, sub, ab, col, dd, k0, k1, k2, k3, k5, _, X _ _ ho, .of_isNs (PySem.W.isNs_of_in X hok), PySem.W.nsMap_none_of_in X hok hni, PySem.W.tail_of_in X ht⟩
    · cases q
  · cases q
def tRaise (E : St → XK) (C : Addr) (t : TA) : TS := fun _ σ H => t σ H fun vs H1 => vs.length ≤ sizeLine ∧ E σ (.ref C) none H1
theorem ps_raise {X : Cx} {E : St → XK} {C : Addr} {x : Str} {np cpos pos : Pos} {e : Expr} {es : List Expr} {t : TA} (hc : X.calm = true) (hR : Raises X E) (q : PySem.W.excIn X.K C veB "ValueError.__new__" = true) (hg : Gl X x) (hm : X.mg x = some (.ref C)) (ha : PA X (e :: es) t)
    (hdb : (x == ("__debug__" : Str)) = false := by decide) (he : starEach (e :: es) X.env = (false, eval e X.env) :: starEach es X.env := by rfl) (hpl : (backTo cpos (starEach es X.env)).any (·.1) = false := by rfl) :
    PS X (.Raise (some (.Call (.Name x np) (e :: es) [] cpos)) none pos) (tRaise E C t) := by
  intro pins s σ H D I h
  obtain ⟨tl, N, nm, q, bs, hdct, sn, sub, ab, col, dd, k0, k1, k2, k3, k5, mN, hC, hN, hni, T⟩ := excObj_of I.ok.mod.kin q
  refine wpAny_Raise_call_subT (C := C) (nm := nm) (q := q) (N := N) (bs := bs) (bm := tl) (hdct := hdct) (sn := sn) (sub := sub) (ab := ab) (col := col) (dd := dd) (k0 := k0) (k1 := k1) (k2 := k2) (k3 := k3) (k5 := k5)
    PySem.F.excBase_ValueError (mN := mN) (T.hasType PySem.F.excBase_ValueError.hasBase) (I.ok.hd hc) (by rw [he]; show (false || (backTo cpos (starEach es X.env)).any (·.1)) = false; rw [hpl]; rfl) hni (ld_glob I hg hm ⟨rfl, ?_⟩ hdb)
  have h1 := ha cpos pins s σ H _ I h
  rw [he] at h1 ⊢
  refine Calls.evalArgs_plain (thn h1 fun us s2 ⟨vs, H2, I2, r, z, hE⟩ => ⟨rfl, by rw [← r.length]; exact z, I2.bk _ _ hC, hN.keeps I2.bk, T.keeps I2.bk, fun h' ea M => ?_⟩)
  exact hR pins σ H2 s2 ea (.ref C) us h' I2 M hE
end L2


set_option Elab.async false
set_option linter.all false
set_option maxRecDepth 100000
set_option maxHeartbeats 4000000
namespace L2
open PySem PySem.Spec PyProof.Rows
section
variable {X : Cx} {pins : List (Addr × Obj)} {σ : St} {H : Hp} {s : Shared}
theorem Inv.adopt {a : Addr} {o : HO} (I : Inv X pins σ H s) (hn : H a = none) (h0 : X.s₀.heap.get? a = none) (hL : a ≠ X.env.locals) (hC : ∀ x c, X.env.cells.lookup x = some c → c ≠ a) (hp : ∀ p ∈ X.pn ++ pins, p.1 ≠ a) (ok : ObjOk X.prog X.w (upd H a o) s.heap a o) : Inv X pins σ (upd H a o) s := by
  refine ⟨I.ok, I.os, I.bare, ⟨I.base.keep, I.base.slot, fun b u e n hx => ?_, I.base.there, fun b xs q => ?_, fun b u xs q => ?_, fun b ps q => ?_⟩, I.loc, I.cell, ?_, fun x c e => ?_, fun p hp' => ?_, fun b u e => ?_, I.len⟩
  · rw [upd_ne (fun z => by rw [z, h0] at e; cases e)]; exact I.base.free b u e n hx
  · have z := I.base.tups b xs q
    rw [upd_ne (ne_of_none z hn)]; exact z
  · have z := I.base.frzs b u xs q
    rw [upd_ne (ne_of_none z hn)]; exact z
  · obtain ⟨more, z⟩ := I.base.tbls b ps q
    exact ⟨more, by rw [upd_ne (ne_of_none z hn)]; exact z⟩
  · rw [upd_ne (Ne.symm hL)]; exact I.free
  · rw [upd_ne (hC x c e)]; exact I.freeC x c e
  · obtain ⟨e, n, ne, nf, d⟩ := I.pin p hp'
    exact ⟨e, by rw [upd_ne (hp p hp')]; exact n, ne, nf, d⟩
  · by_cases hb : b = a
    · subst hb; rw [upd_same] at e; cases e; exact ok
    · rw [upd_ne hb] at e
      exact (I.hok b u e).stay (fun c v _ q => q) (fun c q => by rw [upd_ne (ne_of_none q hn)]; exact q) fun c xs q => by rw [upd_ne (ne_of_none q hn)]; exact q
theorem unname {M : Model} {A : Around} {E : Value → Shared → Prop} {i : Nat} {n : Str} {pos : Pos} {Q : Unit → Shared → Prop} (I : Inv X pins σ H s) (hN : X.N.Nodup) (hi : X.N[i]? = some n) (hk : X.env.scope.names.lookup n = some .local)
    (h : ∀ s', Inv X pins (σ.set i none) H s' → Q () s') : wpAny M A (do bindName X.env n .none; unbindBehindTheSuite X.env n pos) Q E s := by
  obtain ⟨m, hn, hl⟩ := id I.loc
  have hcls : (X.env.scope.kind == .class || (X.env.scope.kind == .module && X.env.locals != X.env.globals)) = false := by rw [I.ok.kind]; rfl
  have cne := I.cne
  refine wpAny_nameGoes_keeps hk hn hcls fun h' v hn' hs => ?_
  obtain ⟨oL, _, _, hoL, _⟩ := id hn
  have tracked : HOk X.prog X.w H h' := fun b ob e => by
    refine (I.hok b ob e).stay (fun c w' hc q => (hs.2 c ?_).trans q) (fun _ q => q) fun _ _ q => q
    rintro rfl
    rcases hc with rfl | hc
    · rw [I.free] at e; cases e
    · rw [I.free] at hc; cases hc
  have J : Inv X pins (σ.set i none) H { s with heap := h' } := by
    refine ⟨I.ok, I.os, I.bare, ⟨fun b o e n hb hx => ?_, fun b o e n hb hx => ?_, I.base.free, fun b o e hx => ?_, I.base.tups, I.base.frzs, I.base.tbls⟩, ⟨_, hn', fun j y v' e1 e2 e3 => ?_⟩, fun y c e => ?_, I.free, I.freeC, fun p hp => ?_, tracked, by simpa using I.len⟩
    · exact (hs.2 b (Nat.ne_of_lt (Nat.lt_of_lt_of_le (Heap.lt_size e) I.ok.above))).trans (I.base.keep b o e n hb hx)
    · obtain ⟨sl, e1⟩ := I.base.slot b o e n hb hx
      exact ⟨sl, (hs.2 b (Nat.ne_of_lt (Nat.lt_of_lt_of_le (Heap.lt_size e) I.ok.above))).trans e1⟩
    · obtain ⟨o', e1⟩ := I.base.there b o e hx
      exact ⟨o', (hs.2 b (Nat.ne_of_lt (Nat.lt_of_lt_of_le (Heap.lt_size e) I.ok.above))).trans e1⟩
    · by_cases hj : j = i
      · subst hj
        rw [List.getElem?_set] at e2
        split at e2
        · split at e2 <;> cases e2
        · rename_i z; exact absurd rfl z
      · rw [List.getElem?_set_ne (Ne.symm hj)] at e2
        obtain ⟨u', r', q⟩ := hl j y v' e1 e2 e3
        refine ⟨u', r', ?_⟩
        rcases q with ⟨k, e⟩ | ⟨k, c, e, z⟩
        · refine .inl ⟨k, ?_⟩
          have : y ≠ n := fun e => hj (nodup_ix hN e1 (e ▸ hi))
          simp [this, e]
        · exact .inr ⟨k, c, e, z.sameBut hs (cne y c e)⟩
    · obtain ⟨w', z⟩ := I.cell y c e
      exact ⟨w', z.sameBut hs (cne y c e)⟩
    · obtain ⟨e, n, ne, nf, d⟩ := I.pin p hp
      exact ⟨(hs.2 p.1 ne).trans e, n, ne, nf, d⟩
  exact h _ (J.tok _)
end

abbrev Cx.tr (X : Cx) (pn : List (Addr × Obj)) (E : Value → Shared → Prop) : Cx := { X with pn := pn, xe := E }
abbrev Cx.sui (X : Cx) (pn : List (Addr × Obj)) (ea : Addr) : Cx := { X with pn := pn, xe := fun _ _ => False, A := X.A.mark (some (.ref ea)), calm := false }
theorem Cx.Ok.tr {X : Cx} (ok : X.Ok) (pn : List (Addr × Obj)) (E : Value → Shared → Prop) : (X.tr pn E).Ok :=
  ⟨ok.mod, ok.kind, ok.glob, ok.blt, ok.above, ok.inj, ok.has, ok.cab, ok.hd, ok.frames, ok.stk, ok.exf, ok.bs, ok.bsz, ok.noex, ok.exfs, ok.funs, ok.frf⟩
theorem Cx.Ok.untr {X : Cx} {pn : List (Addr × Obj)} {E : Value → Shared → Prop} (ok : (X.tr pn E).Ok) : X.Ok :=
  ⟨ok.mod, ok.kind, ok.glob, ok.blt, ok.above, ok.inj, ok.has, ok.cab, ok.hd, ok.frames, ok.stk, ok.exf, ok.bs, ok.bsz, ok.noex, ok.exfs, ok.funs, ok.frf⟩
theorem Cx.Ok.sui {X : Cx} (ok : X.Ok) (pn : List (Addr × Obj)) (ea : Addr) : (X.sui pn ea).Ok :=
  ⟨ok.mod, ok.kind, ok.glob, ok.blt, ok.above, ok.inj, ok.has, ok.cab, (fun z => (nomatch z)), ok.frames, ok.stk, ok.exf, ok.bs, ok.bsz, ok.noex, ok.exfs, ok.funs, ok.frf⟩
section
variable {X : Cx} {pins pins' pn : List (Addr × Obj)} {σ : St} {H : Hp} {s : Shared} {E : Value → Shared → Prop} {ea : Addr}
theorem Inv.tr (I : Inv X pins σ H s) (E : Value → Shared → Prop) : Inv (X.tr (X.pn ++ pins) E) [] σ H s :=
  ⟨I.ok.tr _ E, I.os, I.bare, I.base, I.loc, I.cell, I.free, I.freeC, fun p hp => I.pin p (by simpa using hp), I.hok, I.len⟩
theorem Inv.untr (I : Inv (X.tr (X.pn ++ pins) E) pins' σ H s) : Inv X pins σ H s :=
  ⟨I.ok.untr, I.os, I.bare, I.base, I.loc, I.cell, I.free, I.freeC, fun p hp => I.pin p (List.mem_append_left _ hp), I.hok, I.len⟩
theorem Inv.sui (I : Inv X pins σ H s) (ea : Addr) : Inv (X.sui (X.pn ++ pins) ea) [] σ H s :=
  ⟨I.ok.sui _ ea, I.os, I.bare, I.base, I.loc, I.cell, I.free, I.freeC, fun p hp => I.pin p (by simpa using hp), I.hok, I.len⟩
theorem Inv.unsui (ok : X.Ok) (I : Inv (X.sui (X.pn ++ pins) ea) pins' σ H s) : Inv X pins σ H s :=
  ⟨ok, I.os, I.bare, I.base, I.loc, I.cell, I.free, I.freeC, fun p hp => I.pin p (List.mem_append_left _ hp), I.hok, I.len⟩
end

def IsExc (ea C : Addr) : Heap → Prop := fun h => ∃ o vs, h.get? ea = some o ∧ o.cls = .ref C ∧ o.data = .fields vs
theorem isExc_ok {P : Program} {w : World} {H : Hp} {h : Heap} {ea C : Addr} (e : IsExc ea C h) : ObjOk P w H h ea (.ext (IsExc ea C)) :=
  ⟨e, let ⟨o, _, z, _⟩ := e; ⟨o, z⟩, fun _ _ ⟨o, vs, a, b, c⟩ k => ⟨o, vs, k o a, b, c⟩⟩

theorem wpAny_excMatches_sub_own {M : Model} {A : Around} {E : Value → Shared → Prop} {h : Heap} {g : Array GenState} {d : Drawn} {t : Nat} {os : OsState} {e : Addr} {oe : Obj} {Q : Bool → Shared → Prop}
    {nm q : Str} {C N : Addr} {bs bm : List Value} {hdct : Bool} {sn : List Str} {sub : List Value} {ab : Bool} {col : Option Bool} {dd : Option Addr} {k0 k1 k2 k3 k5 : Option Value} {newId : String}
    {nm' q' : Str} {C' N' : Addr} {bs' bm' : List Value} {hdct' : Bool} {sn' : List Str} {sub' : List Value} {ab' : Bool} {col' : Option Bool} {dd' : Option Addr} {k0' k1' k2' k3' k5' : Option Value} {newId' : String}
    (hC : h.get? C = some (excClassObj nm q C N bs bm hdct sn sub ab col dd k0 k1 k2 k3 k5 newId)) (hC' : h.get? C' = some (excClassObj nm' q' C' N' bs' bm' hdct' sn' sub' ab' col' dd' k0' k1' k2' k3' k5' newId'))
    (he : h.get? e = some oe) (hcls : oe.cls = .ref C) (hbase : bm'.contains (.type "BaseException") = true) (hcC : (Value.ref C :: bm).contains (.ref C') = true)
    (hq : Q true ⟨h, g, d, t, os⟩) : wpAny M A (excMatches (.ref e) (.ref C')) Q E ⟨h, g, d, t, os⟩ := by
  have hcB : (Value.ref C' :: bm').contains (.type "BaseException") = true := by rw [List.contains_cons, hbase, Bool.or_true]
  have f := tc_notTuple
  unfold excMatches
  repeat (first | (with_reducible refine wpAny_loadPart_at he ?_; rw [hcls]) | with_reducible refine wpAny_loadPart_at hC' ?_ | (with_reducible refine wpAny_isSubtype_exc hC' ?_; rw [hcB]) | (with_reducible refine wpAny_isSubtype_exc hC ?_; rw [hcC]) | wp_step)
  exact hq

def endsAs (i : Nat) (D : Ends) : Ends := ⟨fun σ H => D.nx (σ.set i none) H, D.rt, fun σ H => D.bk (σ.set i none) H, fun σ H => D.ct (σ.set i none) H⟩
def caughtE (K : PySem.W.Frag) (CP : Addr) (i : Nat) (ts : TS) (D : Ends) : St → XK := fun σ cls _ H' => ∃ C, cls = .ref C ∧ PySem.W.excIn K C veB "ValueError.__new__" = true ∧ PySem.W.mroIn K C (.ref CP) = some true ∧
  ∀ ea, H' ea = none → ts (endsAs i D) (σ.set i (some (.ref ea))) (upd H' ea (.ext (IsExc ea C)))
theorem ps_try {X : Cx} {i : Nat} {n x : Str} {CP : Addr} {body : List Stmt} {b₀ : Stmt} {suite : List Stmt} {np hpos pos : Pos} {tb : (St → XK) → TS} {ts : TS}
    (hex : X.ex = []) (hst : X.stack = X.env :: X.outer) (hfr : X.env.frame = some X.env.locals) (hN : X.N.Nodup) (hi : X.N[i]? = some n) (hk : X.env.scope.names.lookup n = some .local)
    (hg : Gl X x) (hm : X.mg x = some (.ref CP)) (qP : PySem.W.excIn X.K CP veB "ValueError.__new__" = true)
    (hb : ∀ pn xe E, PassesS (CXF X.prog X.w) (X.tr pn xe) E → PSs (X.tr pn xe) body (tb E))
    (hs : ∀ pn ea, PSs (X.sui pn ea) (b₀ :: suite) ts) (hdb : (x == ("__debug__" : Str)) = false := by decide) :
    PS X (.Try body [.ExceptHandler (some (.Name x np)) (some n) (b₀ :: suite) hpos] [] [] pos) (fun D σ H => tb (caughtE X.K CP i ts D) D σ H) := by
  intro pins s σ H D I h
  refine wpAny_Try_except ?_
  have pass : ∀ xe, xe = (fun e s₁ => wpAny (model X.prog X.w) X.A (noteFrame e X.env) (fun _ s₂ => wpAny (model X.prog X.w) X.A (setFlight e none) (fun _ s₃ => wpAny (model X.prog X.w) X.A (handleBy e X.env [.ExceptHandler (some (.Name x np)) (some n) (b₀ :: suite) hpos]) (SP X pins D) X.xe s₃) X.xe s₂) X.xe s₁) →
      PassesS (CXF X.prog X.w) (X.tr (X.pn ++ pins) xe) (caughtE X.K CP i ts D) := by
    rintro xe rfl pins' σ1 H1 s1 e s' I1 hcx
    obtain ⟨ea, cls, a0, H', B, rfl, F, fl, C, rfl, qC, hmro, hts⟩ := hcx
    have fl' : Heap.FlyingW B (X.env :: X.outer) ea (.ref C) a0 s'.heap := by rw [← hst]; exact fl
    have frs' : X.A.frames = some (X.env :: X.outer) := by rw [← hst]; exact I1.ok.frames
    show wpAny (model X.prog X.w) X.A (noteFrame (.ref ea) X.env) _ _ s'
    refine wpAny_looks_onW frs' hfr fl' fun h4 held up4 => ?_
    refine wpAny_landsW held fun h5 fl5 up5 => ?_
    -- at h5
    have fl5' : Heap.FlyingW B X.stack ea (.ref C) a0 h5 := by rw [hst]; exact fl5
    have J5 := I1.call (h' := h5) (g' := s'.gens) (t' := s'.toks) (d' := s'.drawn) (ch := []) (F.land I1.stack I1.stkFree fl5' (up4.trans up5)) (F.hok.kept fl5.1) F.bare (fun b z => absurd z (by simp))
    have e5 : ({ s1 with heap := h5, gens := s'.gens, drawn := s'.drawn, toks := s'.toks } : Shared) = { s' with heap := h5 } := by
      obtain ⟨hh, gg, dd, tt, oo⟩ := s'
      have : oo = s1.os := F.os
      subst this
      rfl
    rw [e5] at J5
    have K5 : Inv (X.sui (X.pn ++ pins) ea) [] σ1 H' { s' with heap := h5 } := (J5.untr).sui ea
    obtain ⟨bm, N, nm, q, bs, hdct, sn, sub, ab, col, dd, k0, k1, k2, k3, k5, mN, hC, _, _, T⟩ := excObj_of K5.kIn qC
    obtain ⟨bm', N', nm', q', bs', hdct', sn', sub', ab', col', dd', k0', k1', k2', k3', k5', mN', hC', _, _, T'⟩ := excObj_of K5.kIn qP
    obtain ⟨ob, hob, hobc⟩ := fl5.there
    have hcon : (Value.ref C :: bm).contains (.ref CP) = true := by
      obtain ⟨cd, ha, hb'⟩ := Option.bind_eq_some_iff.mp hmro
      unfold PySem.W.clsIn at ha
      split at ha
      · rename_i c' d' cd' sl' ho
        cases ha
        have z := (K5.kIn _ _ ho).symm.trans hC
        cases z
        split at hb'
        · cases hb'
        · exact Option.some.inj hb'
      · cases ha
    refine wpAny_handleBy_cons (codeAny_handlers_test ?_) (by intro q; cases q)
    refine ld_glob (X := X.sui (X.pn ++ pins) ea) K5 hg hm ?_ hdb
    refine wpAny_excMatches_sub_own hC hC' hob hobc (T'.hasType (by rfl)) hcon (codeAny_handlers_suite_as ?_)
    refine lands_againW fl5 fun h6 fl6 up6 => ?_
    have fl6' : Heap.FlyingW B X.stack ea (.ref C) a0 h6 := by rw [hst]; exact fl6
    have J6 := I1.call (h' := h6) (g' := s'.gens) (t' := s'.toks) (d' := s'.drawn) (ch := []) (F.land I1.stack I1.stkFree fl6' ((up4.trans up5).trans up6)) (F.hok.kept fl6.1) F.bare (fun b z => absurd z (by simp))
    have e6 : ({ s1 with heap := h6, gens := s'.gens, drawn := s'.drawn, toks := s'.toks } : Shared) = { s' with heap := h6 } := by
      obtain ⟨hh, gg, dd, tt, oo⟩ := s'
      have : oo = s1.os := F.os
      subst this
      rfl
    rw [e6] at J6
    have K6 : Inv (X.sui (X.pn ++ pins) ea) [] σ1 H' { s' with heap := h6 } := (J6.untr).sui ea
    obtain ⟨oe, ws, hoe, hoec, hoed, _⟩ := fl6.first
    have nH : H' ea = none := by
      cases z : H' ea with
      | none => rfl
      | some u =>
        obtain ⟨v, hv⟩ := (F.hok ea u z).there
        rw [fl.2.1] at hv; cases hv
    have nfr : ∀ b, b ∈ frs X.stack → b ≠ ea := fun b hb z => by
      obtain ⟨_, o, ho, hd⟩ := K6.stack.mem hb
      rw [z] at ho
      have : oe = o := Option.some.inj (hoe.symm.trans ho)
      subst this
      exact hd ws hoed
    have n0 : X.s₀.heap.get? ea = none := by
      cases z : X.s₀.heap.get? ea with
      | none => rfl
      | some u =>
        by_cases hb : ea ∈ frs X.stack
        · exact absurd rfl (nfr ea hb)
        · obtain ⟨o1, ho1⟩ := I1.base.there ea u z (by show ea ∉ X.ex; rw [hex]; simp)
          obtain ⟨o2, ho2⟩ := F.kt ea o1 ho1 hb
          rw [fl.2.1] at ho2; cases ho2
    have K7 : Inv (X.sui (X.pn ++ pins) ea) [] σ1 (upd H' ea (.ext (IsExc ea C))) { s' with heap := h6 } := by
      refine K6.adopt nH n0 (fun z => ?_) (fun y c hc z => ?_) (fun p hp z => ?_) (isExc_ok ⟨oe, ws, hoe, hoec, hoed⟩)
      · obtain ⟨m, ⟨o, es, ep, ho, hd, _⟩, _⟩ := K6.loc
        rw [← z] at ho
        have : oe = o := Option.some.inj (hoe.symm.trans ho)
        subst this
        rw [hoed] at hd; cases hd
      · obtain ⟨v, o, ho, hd⟩ := K6.cell y c hc
        rw [z] at ho
        have : oe = o := Option.some.inj (hoe.symm.trans ho)
        subst this
        rw [hoed] at hd; cases hd
      · have hp' : p ∈ (X.tr (X.pn ++ pins) (fun _ _ => False)).pn ++ pins' := List.mem_append_left _ (by simpa using hp)
        obtain ⟨e1, n1, ne1, nf1, _⟩ := I1.pin p hp'
        have hb : p.1 ∉ frs X.stack := fun q => by
          rcases List.mem_cons.mp (I1.stkSub _ q) with r | r
          · exact ne1 r
          · exact nf1 r
        have := F.kb _ _ e1 n1 hb
        rw [z, fl.2.1] at this; cases this
    refine store_ok (X := X.sui (X.pn ++ pins) ea) K7 hN hi (.inl hk) (v := .ref ea) rfl (fun s7 K8 => ?_) (.inr hk)
    refine wpAny_mono (hs (X.pn ++ pins) ea [] s7 _ _ (endsAs i D) K8 (hts ea nH)) (fun f s8 q => ?_) fun _ _ z => False.elim z
    show wpAny _ X.A (do bindName X.env n .none; unbindBehindTheSuite X.env n hpos) (fun _ s₃ => SP X pins D f s₃) X.xe s8
    cases f with
    | next =>
      obtain ⟨σ', H2, I2, q⟩ := q
      exact unname (I2.unsui I.ok) hN hi hk fun s9 I9 => ⟨_, _, I9, q⟩
    | brk =>
      obtain ⟨σ', H2, I2, q⟩ := q
      exact unname (I2.unsui I.ok) hN hi hk fun s9 I9 => ⟨_, _, I9, q⟩
    | cont =>
      obtain ⟨σ', H2, I2, q⟩ := q
      exact unname (I2.unsui I.ok) hN hi hk fun s9 I9 => ⟨_, _, I9, q⟩
    | ret u =>
      obtain ⟨v, σ', H2, I2, r, q⟩ := q
      exact unname (I2.unsui I.ok) hN hi hk fun s9 I9 => ⟨v, _, _, I9, r, q⟩
  refine wpAny_mono (hb (X.pn ++ pins) _ _ (pass _ rfl) [] s σ H D (I.tr _) h) (fun f s1 q => ?_) fun e s1 q => q
  cases f with
  | next =>
    obtain ⟨σ', H2, I2, q⟩ := q
    exact wpAny_execs_nil ⟨σ', H2, I2.untr, q⟩
  | brk =>
    obtain ⟨σ', H2, I2, q⟩ := q
    exact ⟨σ', H2, I2.untr, q⟩
  | cont =>
    obtain ⟨σ', H2, I2, q⟩ := q
    exact ⟨σ', H2, I2.untr, q⟩
  | ret u =>
    obtain ⟨v, σ', H2, I2, r, q⟩ := q
    exact ⟨v, σ', H2, I2.untr, r, q⟩
end L2


set_option Elab.async false
set_option linter.all false
set_option maxRecDepth 100000
set_option maxHeartbeats 4000000
namespace L2
open PySem PySem.Spec PyProof.Rows
section
variable {X : Cx}
end

structure ExcLook (K : PySem.W.Frag) (C : Addr) : Prop where
  ga : PySem.W.findIn K (.ref C) "__getattribute__" = some (some (.builtin "BaseException.__getattribute__"))
  gt : PySem.W.findIn K (.ref C) "__getattr__" = some none
  cl : PySem.W.findIn K (.ref C) "__class__" = some (some (.builtin "object.__class__"))
  sp : PySem.W.specialIn K (.builtin "object.__class__") "__get__" = some (some (.builtin "getset_descriptor.__get__"))
  tk : PySem.W.takesIn K (.builtin "object.__class__") = some true
  ob : PySem.W.mroIn K C (.type "object") = some true
  be : PySem.W.mroIn K C (.type "BaseException") = some true
section
open PySem.W PySem.Calls Builtin Builtin.ObjectAttr Builtin.Getset_descriptor
variable {prog : Program} {w : World} {A : Around} {E : Value → Shared → Prop} {s : Shared} {K : Frag} {x C : Addr}
theorem looks_find_data {M : Model} {h : Heap} {self g a : Value} {name : Str} (X : K.In h) (ha : findIn K (.ref C) name = some (some a)) (hg : specialIn K a "__get__" = some (some g)) (ht : takesIn K a = some true) :
    Looks M h (Builtin.ObjectAttr.find self (.ref C) name) (Found.bind g a) := by
  have L1 := looks_findIn (M := M) X ha
  have L2 : Looks M h (getOf (some a)) (some g) := looks_specialIn X hg
  have L3 := looks_takesIn (M := M) X ht
  exact L1.andThen (L2.andThen ((show Looks M h (dataDescriptor? (some a) (some g)) (some (g, a)) from L3.andThen .now).andThen (Looks.tag .now)))
theorem class_get_exc {tp : Value} {R : Result → Shared → Prop} (X : K.In s.heap) (I : IsExc x C s.heap) (hm : mroIn K C (.type "object") = some true)
    (h : R (.ok (.ret (.ref C))) s) : codeAny (model prog w) A (.call (.builtin "getset_descriptor.__get__") ⟨[.builtin "object.__class__", .ref x, tp], []⟩) R s := by
  obtain ⟨hh, g, dr, t, os⟩ := s
  obtain ⟨o, vs, hx, hc, hd⟩ := I
  have L0 : Looks (model prog w) hh (typeOf (.ref x)) (.ref C) := hc ▸ (Looks.ld hx).andThen .now
  have L1 := looks_mroIn (M := model prog w) X hm
  refine codeAny_call_builtin KF.slot_gs.plain KF.entry_gs (KF.slot_gs.check _ _ _ _ _ _ _ _ KF.type_class (KF.args_gs _ _ _) ?_)
  unfold Builtin.«getset_descriptor.__get__» descrGet
  rw [dga_obj]
  refine wpAny_bind (wpAny_pure ?_)
  unfold descrGetter descrCheckInstance descrNameAndClass isInstance
  simp only [KF.owner_class]
  repeat lk
  refine ⟨Code.quiet_builtin _ (by decide +kernel), codeAny_builtin KF.entry_class ?_⟩
  unfold Builtin.«object.__class__» shownTypeOf
  repeat lk
  exact h
theorem getattr_exc {Q : Option Value → Shared → Prop} (X : K.In s.heap) (I : IsExc x C s.heap) (L : ExcLook K C) (h : Q (some (.ref C)) { s with toks := s.toks + 1 }) : wpAny (model prog w) A (getAttr? (.ref x) "__class__") Q E s := by
  obtain ⟨hh, g, d, t, os⟩ := s
  obtain ⟨o, vs, hx, hc, hd⟩ := id I
  have L0 : Looks (model prog w) hh (typeOf (.ref x)) (.ref C) := hc ▸ (Looks.ld hx).andThen .now
  have L1 := looks_findIn (M := model prog w) X L.ga
  have L2 := looks_findIn (M := model prog w) X L.gt
  have L3 := looks_mroIn (M := model prog w) X L.be
  have LF : Looks (model prog w) hh (Builtin.ObjectAttr.find (.ref x) (.ref C) "__class__") (Found.bind (.builtin "getset_descriptor.__get__") (.builtin "object.__class__")) := looks_find_data X L.cl L.sp L.tk
  unfold getAttr? getAttrBy? getAttrBy
  refine wpAny_bind (wpAny_mkText (wpAny_bind (wpAny_attempt (wpAny_holding (wpAny_bind (L0.at (wpAny_bind (L1.at ?_))))))))
  show wpAny _ _ (if (onTheHeap (Value.ref C) && (Value.builtin "BaseException.__getattribute__" == Value.builtin "object.__getattribute__")) = true then _ else getAttrByItsOwn _ _ _ _ _ _) _ _ _
  rw [if_neg (by
    have z : (Value.builtin "BaseException.__getattribute__" == Value.builtin "object.__getattribute__") = false := by decide +kernel
    rw [z, Bool.and_false]
    decide)]
  unfold getAttrByItsOwn hookBefore
  refine wpAny_bind ?_
  show wpAny _ _ (typeLookup (.ref C) "__getattr__") _ _ _
  refine L2.at ?_
  refine wpAny_bind (wpAny_attempt (wpAny_holding ?_))
  unfold callGetattribute
  rw [if_neg (by decide +kernel)]
  unfold boundAndCalled
  rw [PySem.F.excAttr_ValueError.ga.bind (.ref x)]
  refine wpAny_bind (wpAny_pure ?_)
  refine wpAny_call (codeAny_call_builtin PySem.F.excAttr_ValueError.ga.plain PySem.F.entry_bexc_ga ?_)
  have hk : builtinKind "BaseException.__getattribute__" = some .slot := by decide +kernel
  have hsplit : splitId "BaseException.__getattribute__" = some ("BaseException", "__getattribute__") := by decide +kernel
  have ha := PySem.F.args_bexc_ga (.ref x) (.str "__class__" t)
  show wpAny _ _ (checkBuiltinCall "BaseException.__getattribute__" ⟨[.ref x, .str "__class__" t], []⟩) _ _ _
  simp only [checkBuiltinCall, hk, hsplit]
  refine wpAny_bind ?_
  unfold isInstance
  repeat lk
  refine wpAny_run (class_get_exc (s := ⟨hh, g, d, t + 1, os⟩) X I L.ob ?_)
  exact wpAny_pure (wpAny_pure (wpAny_pure (wpAny_pure h)))
end
end L2


set_option Elab.async false
set_option linter.all false
set_option maxRecDepth 100000
set_option maxHeartbeats 4000000
namespace L2
open PySem PySem.Spec PyProof.Rows

def clStep (env : Env) (x : Str × NameKind) (cs : List (Str × Addr)) : Sem (ForInStep (List (Str × Addr))) :=
  if (x.2 == NameKind.free) = true then (cellOf env x.1 >>= fun a => pure (ForInStep.yield ((x.1, a) :: cs))) else pure (ForInStep.yield cs)
theorem closureFor_go {env : Env} : ∀ (names : List (Str × NameKind)) (cs : List (Str × Addr)), (∀ x ∈ names, x.2 = .free → ∃ c, env.cells.lookup x.1 = some c) →
    ∃ cl : List (Str × Addr), (forIn names cs (clStep env) : Sem (List (Str × Addr))) = pure cl ∧
      (∀ y c, cl.lookup y = some c → cs.lookup y = some c ∨ env.cells.lookup y = some c) ∧ (∀ y, (∃ c, cs.lookup y = some c) → ∃ c, cl.lookup y = some c) ∧ ∀ x ∈ names, x.2 = .free → ∃ c, cl.lookup x.1 = some c
  | [], cs, _ => ⟨cs, rfl, fun _ _ h => .inl h, fun _ h => h, fun _ h => nomatch h⟩
  | (n, k) :: r, cs, h => by
    by_cases hk : k = .free
    · subst hk
      obtain ⟨c, hc⟩ := h (n, .free) List.mem_cons_self rfl
      obtain ⟨cl, e, a, b, d⟩ := closureFor_go r ((n, c) :: cs) fun x hx => h x (List.mem_cons_of_mem _ hx)
      refine ⟨cl, ?_, fun y c' hy => ?_, fun y ⟨c', hy⟩ => ?_, fun x hx hf => ?_⟩
      · rw [List.forIn_cons]
        have e1 : cellOf env n = pure c := by unfold cellOf; rw [hc]
        have e2 : clStep env (n, .free) cs = pure (ForInStep.yield ((n, c) :: cs)) := by
          show (cellOf env n >>= fun a => pure (ForInStep.yield ((n, a) :: cs))) = _
          rw [e1]
          rfl
        rw [e2]
        exact e
      · rcases a y c' hy with z | z
        · rw [List.lookup_cons] at z
          split at z
          · rename_i q
            have : y = n := by simpa using q
            subst this
            cases z
            exact .inr hc
          · exact .inl z
        · exact .inr z
      · refine b y ?_
        rw [List.lookup_cons]
        split
        · exact ⟨_, rfl⟩
        · exact ⟨c', hy⟩
      · rcases List.mem_cons.mp hx with z | z
        · subst z
          refine b n ⟨c, ?_⟩
          rw [List.lookup_cons]; simp
        · exact d x z hf
    · have hb : (k == NameKind.free) = false := by simpa using hk
      obtain ⟨cl, e, a, b, d⟩ := closureFor_go r cs fun x hx => h x (List.mem_cons_of_mem _ hx)
      refine ⟨cl, ?_, a, b, fun x hx hf => ?_⟩
      · rw [List.forIn_cons]
        have e2 : clStep env (n, k) cs = pure (ForInStep.yield cs) := by
          unfold clStep
          rw [if_neg (by rw [hb]; decide)]
        rw [e2]
        exact e
      · rcases List.mem_cons.mp hx with z | z
        · subst z; exact absurd hf hk
        · exact d x z hf
theorem closureFor_of {scope : Scope} {env : Env} (h : ∀ x ∈ scope.names, x.2 = .free → ∃ c, env.cells.lookup x.1 = some c) :
    ∃ cl, closureFor scope env = pure cl ∧ (∀ y c, cl.lookup y = some c → env.cells.lookup y = some c) ∧ ∀ x ∈ scope.names, x.2 = .free → ∃ c, cl.lookup x.1 = some c := by
  obtain ⟨cl, e, a, _, d⟩ := closureFor_go scope.names [] h
  refine ⟨cl, ?_, fun y c hy => ?_, d⟩
  · have e0 : closureFor scope env = (forIn scope.names [] (clStep env) >>= fun cs => pure cs) := by
      unfold closureFor
      congr 1
    rw [e0, e]
    rfl
  · rcases a y c hy with z | z
    · cases z
    · exact z

section
variable {prog : Program} {w : World} {A : Around} {R : Result → Shared → Prop} {s : Shared}
theorem compLoop_gen {elt target iter : Expr} {ifs : List Expr} {scope : Scope} {pos : Pos} {it acc : Value} {env : Env} (I : Nat → Shared → Prop)
    (turn : ∀ n s, I n s → wpAny (model prog w) A (pyNext it) (fun r s₁ => match r with
      | none => R (.ok .next) s₁
      | some v => wpAny (model prog w) A (letOwnedTupleGo target it v) (fun _ s₁' => wpAny (model prog w) A (assign target env v) (fun _ s₂ =>
          wpAny (model prog w) A (forIn ifs true fun c r => if r = true then do let ok ← isTrue c env (eval c env); pure (ForInStep.yield ok) else pure (ForInStep.yield r)) (fun ok s₃ =>
            if ok = true then wpAny (model prog w) A (eval elt env) (fun x s₄ =>
              wpAny (model prog w) A (call (.builtin "list.append") [acc, x]) (fun _ s₅ => ∃ m, m < n ∧ I m s₅) (notedBy (model prog w) A env fun e s' => R (.error e) s') s₄) (notedBy (model prog w) A env fun e s' => R (.error e) s') s₃
            else ∃ m, m < n ∧ I m s₃) (notedBy (model prog w) A env fun e s' => R (.error e) s') s₂) (notedBy (model prog w) A env fun e s' => R (.error e) s') s₁') (notedBy (model prog w) A env fun e s' => R (.error e) s') s₁) (notedBy (model prog w) A env fun e s' => R (.error e) s') s)
    (n : Nat) (h : I n s) :
    codeAny (model prog w) A (.compLoop (.ListComp elt [⟨target, iter, ifs, 0⟩] scope pos) 0 it acc env) R s := by
  refine codeAny_loop rfl I (fun n s hI => ?_) n h
  show wpAny _ A ((compTurn (.ListComp elt [⟨target, iter, ifs, 0⟩] scope pos) 0 it acc env).onRaise (fun x => do noteFrame x env; theTreesLotGoes x)) _ _ s
  refine wpAny_noted ?_
  rw [compTurn_list]
  refine wpAny_bind (wpAny_standAt (wpAny_bind (wpAny_mono (turn n s hI) (fun r s₁ h₁ => ?_) fun _ _ h' => h')))
  cases r with
  | none => exact wpAny_pure h₁
  | some v =>
    refine wpAny_bind (wpAny_mono h₁ (fun _ s₁' h₁' => ?_) fun _ _ h' => h')
    refine wpAny_bind (wpAny_mono h₁' (fun _ s₂ h₂ => wpAny_bind (wpAny_mono h₂ (fun ok s₃ h₃ => ?_) fun _ _ h' => h')) fun _ _ h' => h')
    cases ok with
    | false => exact wpAny_pure ⟨rfl, h₃⟩
    | true =>
      exact wpAny_bind (wpAny_bind (wpAny_mono h₃ (fun x s₄ h₄ => wpAny_bind (wpAny_mono h₄ (fun _ s₅ h₅ => wpAny_pure (wpAny_pure ⟨rfl, h₅⟩)) fun _ _ h' => h')) fun _ _ h' => h'))
end

def PIf (X : Cx) (ifs : List Expr) (t : TT) : Prop :=
  ∀ (pins : List (Addr × Obj)) (s : Shared) (σ : St) (H : Hp) (Q : Bool → Hp → Prop), Inv X pins σ H s → t σ H Q →
    wpAny (model X.prog X.w) X.A (forIn ifs true fun c r => if r = true then do let ok ← isTrue c X.env (eval c X.env); pure (ForInStep.yield ok) else pure (ForInStep.yield r)) (TP X pins σ Q) X.xe s
def tYes : TT := fun _ H Q => Q true H
theorem pif_nil {X : Cx} : PIf X [] tYes := fun _ _ _ H _ I h => wpAny_tests_nil ⟨H, I, h⟩
theorem pif_one {X : Cx} {c : Expr} {t : TT} (h : PT X c t) : PIf X [c] t := fun pins s σ H Q I hq => wpAny_tests_one (h pins s σ H Q I hq)

def cxComp (X : Cx) (N : List Str) (scope : Scope) (cl : List (Str × Addr)) (C : Addr) (s : Shared) (H : Hp) (fp : List Addr) (pins : List (Addr × Obj)) : Cx :=
  { X with N := N, s₀ := s, H₀ := H, env := compEnvC scope cl C X.env, outer := X.stack, ex := fp, fn := fun _ => false, pn := X.pn ++ pins, xe := fun _ _ => False }

theorem relabel_lookup {env : Env} : ∀ {names : List (Str × NameKind)} {x : Str} {k : NameKind}, (∀ y ∈ names, y.2 ≠ .cell) → (k = .cell ∨ k = .free) →
    (names.map fun (n, k) => if (k == NameKind.free && env.scope.kind == .function && env.kindOf n == some .cell) then (n, NameKind.cell) else (n, k)).lookup x = some k → names.lookup x = some .free
  | [], _, _, _, _, h => by cases h
  | (n, k') :: r, x, k, hc, hk, h => by
    have ih := @relabel_lookup env r x k (fun y hy => hc y (List.mem_cons_of_mem _ hy)) hk
    have h' : List.lookup x ((if (k' == NameKind.free && env.scope.kind == .function && env.kindOf n == some .cell) = true then (n, NameKind.cell) else (n, k')) :: (r.map fun (n, k) => if (k == NameKind.free && env.scope.kind == .function && env.kindOf n == some .cell) then (n, NameKind.cell) else (n, k))) = some k := h
    rw [List.lookup_cons]
    by_cases hx : (x == n) = true
    · rw [hx]
      by_cases c : (k' == NameKind.free && env.scope.kind == .function && env.kindOf n == some .cell) = true
      · simp only [Bool.and_eq_true, beq_iff_eq] at c
        rw [c.1.1]
      · rw [if_neg c, List.lookup_cons, hx] at h'
        have e : k' = k := Option.some.inj h'
        subst e
        rcases hk with z | z
        · exact absurd z (hc (n, k') List.mem_cons_self)
        · rw [z]
    · have hx' : (x == n) = false := by simpa using hx
      rw [hx']
      refine ih ?_
      by_cases c : (k' == NameKind.free && env.scope.kind == .function && env.kindOf n == some .cell) = true
      · rw [if_pos c, List.lookup_cons, hx'] at h'
        exact h'
      · rw [if_neg c, List.lookup_cons, hx'] at h'
        exact h'
theorem relabel_free {env : Env} : ∀ {names : List (Str × NameKind)} {x : Str}, names.lookup x = some .free →
    (names.map fun (n, k) => if (k == NameKind.free && env.scope.kind == .function && env.kindOf n == some .cell) then (n, NameKind.cell) else (n, k)).lookup x = some .cell ∨
    (names.map fun (n, k) => if (k == NameKind.free && env.scope.kind == .function && env.kindOf n == some .cell) then (n, NameKind.cell) else (n, k)).lookup x = some .free
  | [], _, h => by cases h
  | (n, k') :: r, x, h => by
    have ih := @relabel_free env r x
    show List.lookup x ((if (k' == NameKind.free && env.scope.kind == .function && env.kindOf n == some .cell) = true then (n, NameKind.cell) else (n, k')) :: _) = _ ∨ List.lookup x ((if (k' == NameKind.free && env.scope.kind == .function && env.kindOf n == some .cell) = true then (n, NameKind.cell) else (n, k')) :: _) = _
    rw [List.lookup_cons] at h
    by_cases hx : (x == n) = true
    · rw [hx] at h
      have e : k' = .free := Option.some.inj h
      subst e
      by_cases c : (NameKind.free == NameKind.free && env.scope.kind == .function && env.kindOf n == some .cell) = true
      · rw [if_pos c]; simp only [List.lookup_cons, hx]; exact .inl trivial
      · rw [if_neg c]; simp only [List.lookup_cons, hx]; exact .inr trivial
    · have hx' : (x == n) = false := by simpa using hx
      rw [hx'] at h
      by_cases c : (k' == NameKind.free && env.scope.kind == .function && env.kindOf n == some .cell) = true
      · rw [if_pos c]; simp only [List.lookup_cons, hx']; exact ih h
      · rw [if_neg c]; simp only [List.lookup_cons, hx']; exact ih h

def tComp (wi : TI) (σ0 : St → St) (g : TG) (ti : TT) (te : TE) : TE := fun σ H Q => wi σ H fun J H1 => ∀ D, H1 D = none → ∃ W : Nat → Nat → St → Hp → Prop, (∃ m, W 0 m (σ0 σ) (upd H1 D (.lst []))) ∧ ∀ i m σ' H', W i m σ' H' →
  (J.stop i H' ∧ Q (.ref D) H') ∨ (J.go i H' ∧ ∀ x H2, J.yld i H' x H2 → g x σ' H2 fun σ2 H3 => ti σ2 H3 fun b H4 => if b = true then te σ2 H4 fun y H5 => ∃ ys, H5 D = some (.lst ys) ∧ ys.length < sizeLine ∧ ∃ m', m' < m ∧ W (i + 1) m' σ2 (upd H5 D (.lst (ys ++ [y])))
    else ∃ m', m' < m ∧ W (i + 1) m' σ2 H4)

structure Frees (X : Cx) (scope : Scope) (N : List Str) (σ0 : St → St) : Prop where
  len : ∀ σ, (σ0 σ).length = N.length
  at_ : ∀ (σ : St) (i : Nat) (y : Str) (v : V), N[i]? = some y → (σ0 σ)[i]? = some (some v) → scope.names.lookup y = some .free ∧ ∃ j : Nat, X.N[j]? = some y ∧ σ[j]? = some (some v)

theorem pe_comp {X : Cx} {elt tg iter : Expr} {ifs : List Expr} {scope : Scope} {pos : Pos} {N : List Str} {σ0 : St → St} {wi : TI} {g : TG} {ti : TT} {te : TE}
    (hc : X.calm = true) (hF : Frees X scope N σ0) (hvis : ∀ y ∈ scope.names, y.2 = .free → X.env.kindOf y.1 = some .cell ∨ X.env.kindOf y.1 = some .free)
    (hcell : ∀ y ∈ scope.names, y.2 ≠ .cell) (hkind : scope.kind = .function) (hnames : ∀ y ∈ scope.names, y.2 = .local → scope.names.lookup y.1 = some .local) (hfl : ∀ y, scope.names.lookup y = some .free → (y, NameKind.free) ∈ scope.names)
    (hi : PI X tg iter wi) (hg : ∀ cl C s H fp pins, PG (cxComp X N scope cl C s H fp pins) tg g) (ht : ∀ cl C s H fp pins, PIf (cxComp X N scope cl C s H fp pins) ifs ti) (he : ∀ cl C s H fp pins, PE (cxComp X N scope cl C s H fp pins) elt te)
    (hs : ∀ x, foldedSetIterable iter X.env x = pure x := by intro _; rfl) : PE X (.ListComp elt [⟨tg, iter, ifs, 0⟩] scope pos) (tComp wi σ0 g ti te) := by
  intro pins s σ H Q I h
  obtain ⟨cl, hclos, hsub, hhas⟩ := closureFor_of (scope := scope) (env := X.env) fun y hy hf => I.ok.has y.1 (hvis y hy hf)
  rw [eval_ListComp]
  refine wpAny_comprehension_free (use := none) rfl hs hclos hkind hnames (thn (hi pins s σ H _ I h) fun v s1 h1 => thn h1 fun itv s2 h2 => ?_)
  obtain ⟨it, fp, tn, J, H2, e, I2, T, st2, f2, q2⟩ := h2
  subst e
  refine wpAny_newObj_type (wpAny_newFunctionEnv hcell (by intro y hy; simp at hy) (fun h₁ hns₁ hsb₁ => ?_) hkind)
  dsimp only at hns₁ hsb₁ ⊢
  generalize hH2 : s2.heap.push { cls := .type "list", dict := none, data := .seq ([] : List Value).toArray } = G2 at hns₁ hsb₁ ⊢
  have hC : G2.objs.size = s2.heap.objs.size + 1 := by rw [← hH2, Heap.size_push]
  have hDC : s2.heap.objs.size ≠ G2.objs.size := by rw [hC]; exact Nat.ne_of_lt (Nat.lt_succ_self _)
  have below : ∀ b, b < s2.heap.objs.size → b ≠ G2.objs.size ∧ b ≠ s2.heap.objs.size := fun b hb => ⟨by rw [hC]; exact Nat.ne_of_lt (Nat.lt_succ_of_lt hb), Nat.ne_of_lt hb⟩
  have old : ∀ b o, s2.heap.get? b = some o → h₁.get? b = some o := fun b o e => hsb₁.extBut b o (below b (Heap.lt_size e)).1 (Heap.get?_push_of_some _ (hH2 ▸ Heap.get?_push_of_some _ e))
  have hD : h₁.get? s2.heap.objs.size = some { cls := .type "list", dict := none, data := .seq ([] : List Value).toArray } := hsb₁.extBut _ _ hDC (Heap.get?_push_of_some _ (hH2 ▸ Heap.get?_push_size _ rfl))
  have nD : H2 s2.heap.objs.size = none := I2.hok.fresh (Nat.le_refl _)
  have nC : H2 G2.objs.size = none := I2.hok.fresh (by rw [hC]; exact Nat.le_succ _)
  have fpl : ∀ b ∈ fp, b < s2.heap.objs.size := fun b hb => by
    obtain ⟨o, e, _⟩ := T.obj _ _ st2 b hb
    exact Heap.lt_size e
  have cells : ∀ y c, cl.lookup y = some c → ∃ v, s2.heap.IsCell c v := fun y c e => I2.cell y c (hsub y c e)
  have cellLt : ∀ y c, cl.lookup y = some c → c < s2.heap.objs.size := fun y c e => by
    obtain ⟨v, o, ho, _⟩ := cells y c e
    exact Heap.lt_size ho
  have stkNo : ∀ b, b ≠ X.env.locals → b ∉ X.fs → b ∉ frs X.stack := fun b n1 n2 z => by
    rcases List.mem_cons.mp (I2.stkSub b z) with r | r
    · exact n1 r
    · exact n2 r
  obtain ⟨W, ⟨m0, w0⟩, turn⟩ := q2 s2.heap.objs.size nD
  have ok : (cxComp X N scope cl G2.objs.size s2 H2 fp pins).Ok := by
    refine ⟨I2.ok.mod, hkind, I2.ok.glob, I2.ok.blt, (by show s2.heap.objs.size ≤ G2.objs.size; rw [hC]; exact Nat.le_succ _), fun x y c a b => I2.ok.inj x y c (hsub x c a) (hsub y c b), fun x hx => ?_, fun x c a => (nomatch a), I2.ok.hd, I2.ok.frames, .inl rfl, fun b hb => ⟨(below b (fpl b hb)).1, fun x c e => ?_⟩, I2.bs, Nat.le_trans I2.ok.bsz I2.sz, fun b o e hb => ?_, fun b hb => stkNo b (f2 b hb).2.1 (f2 b hb).2.2.1, I2.stack, I2.stkFree⟩
    · have hx' : scope.names.lookup x = some .free := by
        rcases hx with z | z
        · exact relabel_lookup hcell (.inl rfl) z
        · exact relabel_lookup hcell (.inr rfl) z
      exact hhas _ (hfl x hx') rfl
    · exact (f2 b hb).2.2.2.2.1 x c (hsub x c e)
    · rcases (f2 b hb).2.2.2.1 with z | z
      · exact I2.ok.noex b o e z
      · exact absurd (Nat.lt_of_lt_of_le (Heap.lt_size e) (Nat.le_trans I2.ok.bsz z)) (Nat.lt_irrefl _)
  have inv0 : Inv (cxComp X N scope cl G2.objs.size s2 H2 fp pins) [] (σ0 σ) (upd H2 s2.heap.objs.size (.lst [])) { s2 with heap := h₁, toks := s2.toks + ([] : List (Str × Value)).length } := by
    refine ⟨ok, rfl, I2.bare, Un.laid old (Nat.le_refl _) nD, ⟨_, hns₁, fun i y v e1 e2 e3 => ?_⟩, fun y c e => ?_, ?_, fun y c e => ?_, fun p hp => ?_, ?_, hF.len σ⟩
    · obtain ⟨hfr, j, hj, hv⟩ := hF.at_ σ i y v e1 e2
      have hk := hvis _ (hfl y hfr) rfl
      obtain ⟨m, hn, hl⟩ := I2.loc
      obtain ⟨u, r, l⟩ := hl j y v hj hv (.inr (hk.elim .inl .inr))
      refine ⟨u, r, .inr ⟨relabel_free hfr, ?_⟩⟩
      rcases l with ⟨k1, _⟩ | ⟨_, c, hc, hcell⟩
      · rcases hk with z | z
        · rw [k1] at z; cases z
        · rw [k1] at z; cases z
      · obtain ⟨c', hc'⟩ := hhas _ (hfl y hfr) rfl
        have : c' = c := Option.some.inj ((hsub _ _ hc').symm.trans hc)
        subst this
        refine ⟨c', hc', ?_⟩
        obtain ⟨o, ho, hd⟩ := hcell
        exact ⟨o, old _ _ ho, hd⟩
    · obtain ⟨v, o, ho, hd⟩ := cells y c e
      exact ⟨v, o, old _ _ ho, hd⟩
    · show upd H2 s2.heap.objs.size (.lst []) G2.objs.size = none
      rw [upd_ne (Ne.symm hDC)]; exact nC
    · show upd H2 s2.heap.objs.size (.lst []) c = none
      rw [upd_ne (below c (cellLt y c e)).2]; exact I2.freeC y c (hsub y c e)
    · have hp' : p ∈ X.pn ++ pins := by simpa [cxComp] using hp
      obtain ⟨e, n, ne, nf, d⟩ := I2.pin p hp'
      refine ⟨old _ _ e, ?_, (below _ (Heap.lt_size e)).1, stkNo _ ne nf, d⟩
      rw [upd_ne (below _ (Heap.lt_size e)).2]; exact n
    · exact I2.hok.laid old (Nat.le_refl _) ⟨Nat.zero_le _, [], 0, .nil, hD⟩
  have tn0 : tn 0 h₁ := T.keep 0 _ _ st2 fun b _ o e => old b o e
  have stat : ∀ {H' : Hp}, (∀ b ∈ fp, H' b = none) → ∀ b ∈ fp, FpOk (cxComp X N scope cl G2.objs.size s2 H2 fp pins) [] H' b := fun hn b hb =>
    ⟨hn b hb, (below b (fpl b hb)).1, stkNo b (f2 b hb).2.1 (f2 b hb).2.2.1, .inl hb, fun x c e => (f2 b hb).2.2.2.2.1 x c (hsub x c e), fun p hp => (f2 b hb).2.2.2.2.2 p (by simpa [cxComp] using hp)⟩
  have loop : codeAny (model X.prog X.w) X.A (.compLoop (.ListComp elt [⟨tg, iter, ifs, 0⟩] scope pos) 0 (.ref it) (.ref s2.heap.objs.size) (compEnvC scope cl G2.objs.size X.env))
      (compPost (model X.prog X.w) X.A X.xe none (EP X pins σ Q) (.ref s2.heap.objs.size) G2.objs.size) { s2 with heap := h₁, toks := s2.toks + ([] : List (Str × Value)).length } := by
    refine compLoop_gen (fun n s' => ∃ i σ' H', Inv (cxComp X N scope cl G2.objs.size s2 H2 fp pins) [] σ' H' s' ∧ tn i s'.heap ∧ (∀ b ∈ fp, H' b = none) ∧ W i n σ' H') ?_ m0
      ⟨0, σ0 σ, _, inv0, tn0, fun b hb => by rw [upd_ne (below b (fpl b hb)).2]; exact (f2 b hb).1, w0⟩
    rintro n s3 ⟨i, σ3, H3, I3, st3, fr3, w3⟩
    have no : ∀ {α : Type} {t : Sem α} {Q' : α → Shared → Prop} {E' : Value → Shared → Prop} {s' : Shared}, wpAny (model X.prog X.w) X.A t Q' (fun _ _ => False) s' → wpAny (model X.prog X.w) X.A t Q' E' s' := fun h => wpAny_mono h (fun _ _ z => z) fun _ _ z => False.elim z
    rcases turn i n σ3 H3 w3 with ⟨stop, qn⟩ | ⟨go, step⟩
    · refine no (thn (T.done (cxComp X N scope cl G2.objs.size s2 H2 fp pins) rfl rfl rfl hc i [] s3 σ3 H3 _ I3 (stat fr3) st3 stop) fun r s4 ⟨hr, I4⟩ => ?_)
      subst hr
      obtain ⟨m, hn, _⟩ := I4.loc
      refine ⟨m, hn, fun h' hs' => ?_⟩
      have u : Un (frs X.stack) fp H2 H3 s2.heap h' := by
        have b0 : Un (frs X.stack) fp H2 H3 s2.heap s4.heap := I4.base
        have neC : ∀ b o, s2.heap.get? b = some o → b ≠ G2.objs.size := fun b o e => (below b (Heap.lt_size e)).1
        exact ⟨fun b o e n hb hx => (hs'.2 b (neC b o e)).trans (b0.keep b o e n hb hx), fun b o e n hb hx => by
          obtain ⟨sl, z⟩ := b0.slot b o e n hb hx
          exact ⟨sl, (hs'.2 b (neC b o e)).trans z⟩, b0.free, fun b o e hx => by
          obtain ⟨o', z⟩ := b0.there b o e hx
          exact ⟨o', (hs'.2 b (neC b o e)).trans z⟩, b0.tups, b0.frzs, b0.tbls⟩
      have hfreeC : H3 G2.objs.size = none := I4.free
      have hk : HOk X.prog X.w H3 h' := fun b ob e => by
        refine (I4.hok b ob e).stay (fun c w' hc q => (hs'.2 c ?_).trans q) (fun _ q => q) fun _ _ q => q
        rintro rfl
        rcases hc with z | z
        · rw [← z, hfreeC] at e; cases e
        · rw [hfreeC] at z; cases z
      have hos : s4.os = s2.os := I4.os
      have J4 : Inv X pins σ H3 { s4 with heap := h' } := I2.call' (s' := { s4 with heap := h' }) (ch := fp) hos u hk I4.bare fun b hb => ⟨(f2 b hb).2.2.2.1, (f2 b hb).2.1, (f2 b hb).2.2.2.2.1, (f2 b hb).2.2.2.2.2⟩
      exact ⟨.ref s2.heap.objs.size, H3, J4, rfl, qn⟩
    · refine no (thn (T.item (cxComp X N scope cl G2.objs.size s2 H2 fp pins) rfl rfl rfl hc i [] s3 σ3 H3 _ I3 (stat fr3) st3 go) fun r s4 ⟨u, hr, h4⟩ => ?_)
      subst hr
      refine no (thn h4 fun _ s5 ⟨x, H5, I5, r5, y5, st5, fr5⟩ => ?_)
      have I5' := I5.pinned (stat fr5) (T.obj _ _ st5)
      have again : ∀ {s7 : Shared} {σ7 : St} {H7 : Hp} {m' : Nat}, Inv (cxComp X N scope cl G2.objs.size s2 H2 fp pins) ([] ++ pinsAt fp s5.heap) σ7 H7 s7 → m' < n → W (i + 1) m' σ7 H7 → ∃ m, m < n ∧ ∃ i σ' H', Inv (cxComp X N scope cl G2.objs.size s2 H2 fp pins) [] σ' H' s7 ∧ tn i s7.heap ∧ (∀ b ∈ fp, H' b = none) ∧ W i m σ' H' := fun {s7 σ7 H7 m'} I7 hm w7 => by
        refine ⟨m', hm, i + 1, σ7, H7, I7.unpinned, T.keep _ _ _ st5 fun b hb o e => (I7.pin (b, o) (List.mem_append_right _ (List.mem_append_right _ (mem_pinsAt hb e)))).1, fun b hb => ?_, w7⟩
        obtain ⟨o, e, d⟩ := T.obj _ _ st5 b hb
        exact (I7.pin (b, o) (List.mem_append_right _ (List.mem_append_right _ (mem_pinsAt hb e)))).2.1
      refine no (thn (hg cl G2.objs.size s2 H2 fp pins _ s5 σ3 H5 x u _ I5' r5 (step x H5 y5)) fun _ s6 ⟨σ6, H6, I6, q6⟩ => ?_)
      refine no (thn (ht cl G2.objs.size s2 H2 fp pins _ s6 σ6 H6 _ I6 q6) fun b s7 ⟨H7, I7, q7⟩ => ?_)
      cases b with
      | false =>
        rw [if_neg (by decide)] at q7
        obtain ⟨m', hm, w7⟩ := q7
        exact again I7 hm w7
      | true =>
        rw [if_pos rfl] at q7
        refine no (thn (he cl G2.objs.size s2 H2 fp pins _ s7 σ6 H7 _ I7 q7) fun yv s8 ⟨y, H8, I8, r8, ys, hys, hz, m', hm, w8⟩ => ?_)
        refine no (thn (mt_append (X := cxComp X N scope cl G2.objs.size s2 H2 fp pins) _ s8 σ6 H8 (.ref s2.heap.objs.size) [y] _ [yv] (fun _ H9 => H9 = upd H8 s2.heap.objs.size (.lst (ys ++ [y]))) I8 rfl (.cons r8 .nil) ⟨_, ys, y, rfl, rfl, hys, hz, rfl⟩) fun _ s9 ⟨_, H9, I9, _, q9⟩ => ?_)
        subst q9
        exact again I9 hm w8
  exact codeAny_compStart_list loop (T.self X.A 0 _ _ _ tn0 loop)
end L2


set_option Elab.async false
set_option linter.all false
set_option maxRecDepth 100000
set_option maxHeartbeats 4000000
namespace L2
open PySem PySem.Spec PyProof.Rows

def cOf : V → Value
  | .ty n => .type n
  | .ref a => .ref a
  | _ => .none
def isCls : V → Bool
  | .ty _ => true
  | .ref _ => true
  | _ => false
theorem cOf_rel {c : V} {u : Value} (r : RelV c u) (h : isCls c = true) : u = cOf c := by
  cases c <;> first | exact r | exact absurd h Bool.false_ne_true
theorem cOf_all : ∀ {cs : List V} {us : List Value}, Vals cs us → cs.all isCls = true → us = cs.map cOf
  | _, _, .nil, _ => rfl
  | c :: cs, u :: us, .cons r t, h => by
    rw [List.all_cons, Bool.and_eq_true] at h
    rw [List.map_cons, cOf_rel r h.1, cOf_all t h.2]
inductive TyX (K : PySem.W.Frag) (H : Hp) : V → Value → Prop where
  | of {x : V} {t : Value} (h : TyOf K H x t) : TyX K H x t
  | exc {a C : Addr} (e : H a = some (.ext (IsExc a C))) (L : ExcLook K C) (hc : (PySem.W.clsIn K C).isSome = true) : TyX K H (.ref a) (.ref C)
theorem kitx_exc {K : PySem.W.Frag} {x C : Addr} (L : ExcLook K C) (hc : (PySem.W.clsIn K C).isSome = true) : PySem.W.KitX K (.ref x) (.ref C) (IsExc x C) where
  ty := fun _ _ _ I => by
    obtain ⟨o, vs, hx, hcl, hd⟩ := I
    exact hcl ▸ (PySem.W.Looks.ld hx).andThen .now
  it := fun _ _ X _ => by
    obtain ⟨cd, hcD⟩ := Option.isSome_iff_exists.mp hc
    unfold PySem.W.clsIn at hcD
    split at hcD
    · rename_i c' d' cd' sl' ho
      intro A' Q' E' s' k q
      unfold isType loadHead
      exact wpAny_bind (wpAny_loadPart (k _ _ (X _ _ ho)) (wpAny_pure q))
    · cases hcD
  ne := fun h tp dd its n sl X htp => by
    obtain ⟨cd, hcD⟩ := Option.isSome_iff_exists.mp hc
    refine Bool.eq_false_iff.mpr fun q => ?_
    have e : C = tp := Value.ref.inj (beq_iff_eq.mp q)
    subst e
    unfold PySem.W.clsIn at hcD
    split at hcD
    · rename_i c' d' cd' sl' ho
      have z := (X _ _ ho).symm.trans htp
      cases z
    · cases hcD
  ca := fun X I k => getattr_exc X I L k
section
variable {X : Cx}
theorem call_isi {K : PySem.W.Frag} (hK : X.K = K) : CallR X (.builtin "isinstance") (fun xs H Q => ∃ x c t b, xs = [x, c] ∧ isCls c = true ∧ TyX K H x t ∧ PySem.W.kitOne K t (cOf c) = some b ∧ Q (.bl b) H) := by
  subst hK
  intro pins s σ H xs us Q I r h
  obtain ⟨x, c, t, b, rfl, hc, ty, e, q⟩ := h
  obtain ⟨u, v, rfl, rx, rc⟩ := Vals.two r
  rw [cOf_rel rc hc]
  have fin : ∀ tk, EP X pins σ Q (.bool b) { s with toks := tk } := fun tk => ⟨.bl b, H, I.tok tk, rfl, q⟩
  cases ty with
  | of h => exact isinst_ok I rx h e fin
  | @exc a C ea L hcl =>
    cases (show u = Value.ref a from rx)
    have z : ObjOk X.prog X.w H s.heap a (.ext (IsExc a C)) := I.hok a _ ea
    exact PySem.W.kia_one (kitx_exc L hcl) I.kIn z.1 e (fun z => nomatch z) fin
theorem call_isiT {K : PySem.W.Frag} (hK : X.K = K) : CallR X (.builtin "isinstance") (fun xs H Q => ∃ a C tp cs b, xs = [.ref a, .ref tp] ∧ H a = some (.ext (IsExc a C)) ∧ ExcLook K C ∧ (PySem.W.clsIn K C).isSome = true ∧ H tp = some (.tup cs) ∧ cs.all isCls = true ∧ PySem.W.kitAny K (.ref C) (cs.map cOf) = some b ∧ Q (.bl b) H) := by
  subst hK
  intro pins s σ H xs us Q I r h
  obtain ⟨a, C, tp, cs, b, rfl, ea, L, hcl, et, hall, e, q⟩ := h
  obtain ⟨u, v, rfl, rx, rc⟩ := Vals.two r
  cases (show u = Value.ref a from rx)
  cases (show v = Value.ref tp from rc)
  have fin : ∀ tk, EP X pins σ Q (.bool b) { s with toks := tk } := fun tk => ⟨.bl b, H, I.tok tk, rfl, q⟩
  have z : ObjOk X.prog X.w H s.heap a (.ext (IsExc a C)) := I.hok a _ ea
  obtain ⟨_, its, rv, ⟨oc, od, dt, sl⟩, h1, h2, n, h3⟩ := (show ObjOk X.prog X.w H s.heap tp (.tup cs) from I.hok tp _ et)
  have h2' : oc = .type "tuple" := h2.1
  have h3' : dt = .seq its.toArray n := h3
  subst h2' h3'
  have ei := cOf_all rv hall
  subst ei
  exact PySem.W.kia_tup (kitx_exc L hcl) I.kIn z.1 h1 e (fun z => nomatch z) fin
theorem op_fdivB : OpR X (binaryOp .FloorDiv) (rI (fun _ j => j ≠ 0 ∧ j.natAbs.log2 < 9000) fun i j => .int (i.fdiv j)) := opI fun _ _ _ _ _ _ _ hc q => floordiv_int hc.1 q (.inl (PyProof.noPylong_of_log2 hc.2))
end
structure FunD (K : PySem.W.Frag) (x qual : Str) (st : Stmt) (dV : Value) (f : Addr) (fd : FuncData) : Prop where
  ex : ∃ (oc : Value) (od : Option Addr) (kV doc pm : Value) (an : Option Addr) (cdv ct : Value) (osl : Array (Option Value)),
    fd = PySem.W.fnOf x qual (defArgs st) (defBody st) (defScope st) dV kV doc pm an cdv ct ∧ K.lookup f = some ⟨oc, od, .func fd, osl⟩ ∧ PySem.W.codeIn K cdv qual = true
  kp : PySem.W.keepIn K (.ref f) = true
theorem FunD.okX {P : Program} {w : World} {K : PySem.W.Frag} {mg : Str → Option Value} {base : Heap} {x qual : Str} {st : Stmt} {dV : Value} {f : Addr} {fd : FuncData} {N ps : List Str} {k : Nat} {sp : Sp} (F : FunD K x qual st dV f fd) (S : FnScope N ps (defScope st)) (len : ∀ vs H Q E, sp vs H Q E → vs.length = ps.length)
    (hbody : ∀ (cdv : Value) (A : Around) (outer : List Env) (s : Shared) (H : Hp) (vs : List V) (Q : VK) (E : XK), Room k (A.deeper (envOfC qual (defScope st) s.heap.objs.size f cdv)) → sp vs H Q E →
      ∃ t, PSs (cxOf (CXF P w) P w K mg base N qual (defScope st) f cdv A outer s H E) (defBody st) t ∧ t { nx := fun _ H' => Q .non H', rt := Q } (start N vs) H) : FnOk P w K mg base (CXF P w) (k + 1) f fd ps sp := by
  obtain ⟨oc, od, kV, doc, pm, an, cdv, ct, osl, rfl, lk, hcd⟩ := F.ex
  exact fn_of lk hcd S len fun A outer s H vs Q E hr hsp => hbody cdv A outer s H vs Q E hr hsp
theorem funD_mk {K : PySem.W.Frag} {x qual : Str} {st : Stmt} {dV : Value} {f : Addr} {oc : Value} {od an : Option Addr} {osl : Array (Option Value)} {kV doc pm cdv ct : Value} (l : K.lookup f = some ⟨oc, od, .func (PySem.W.fnOf x qual (defArgs st) (defBody st) (defScope st) dV kV doc pm an cdv ct), osl⟩)
    (c : PySem.W.codeIn K cdv qual = true) (k : PySem.W.keepIn K (.ref f) = true) : FunD K x qual st dV f (PySem.W.fnOf x qual (defArgs st) (defBody st) (defScope st) dV kV doc pm an cdv ct) := ⟨⟨oc, od, kV, doc, pm, an, cdv, ct, osl, rfl, l, c⟩, k⟩
theorem boolsAre_of : ∀ {bs : List Bool} {us : List Value}, Vals (bs.map V.bl) us → LSm.BoolsAre us bs
  | [], _, .nil => .nil
  | b :: bs, _ :: us, .cons r t => by
    cases (show _ = Value.bool b from r)
    exact .cons b (boolsAre_of t)
theorem call_all {X : Cx} (hc : X.calm = true) : CallR X (.builtin "all") (fun xs H Q => ∃ (l : Addr) (bs : List Bool), xs = [.ref l] ∧ SqL X.K H l (bs.map V.bl) ∧ Q (.bl (bs.all id)) H) := by
  intro pins s σ H xs us Q I r h
  obtain ⟨l, bs, rfl, hq, q⟩ := h
  obtain ⟨u, rfl, rx⟩ := r.one
  cases (show u = Value.ref l from rx)
  obtain ⟨its, rv, pl, hz⟩ := I.list hq
  have hl := pl.isList
  have hb := boolsAre_of rv
  have hlt : l < s.heap.objs.size := by obtain ⟨_, e, _⟩ := hl; exact Heap.lt_size e
  refine call_all_walk (wpAny_pyIter_list hl ?_)
  refine ⟨s.heap.objs.size, [s.heap.objs.size, l], [s.heap.objs.size], its.toArray.size, _, _, fun i => (bs[i]?).getD true, rfl, Walks.list (A := X.A.in1) (I.ok.hd hc) _ l (Nat.ne_of_lt hlt) its.toArray,
    ⟨⟨_, Heap.get?_push_size _ rfl, rfl, rfl⟩, hl.push _⟩, fun i v s' Q' E' hP hQ => ?_, fun h' tk hk => ?_⟩
  · obtain ⟨b, e, rfl⟩ := hb.get i v (by simpa using hP)
    simp only [e, Option.getD_some] at hQ
    exact wpAny_truthy_bool hQ
  · have e : ((List.range its.toArray.size).all fun i => (bs[i]?).getD true) = bs.all id := by
      rw [List.size_toArray, hb.length]; exact LSm.range_all bs
    rw [e]
    exact ⟨.bl _, H, I.kept (LSm.kept_iter hk), rfl, q⟩
def eqVs : List V → List V → Bool
  | [], [] => true
  | x :: xs, y :: ys => eqV x y && eqVs xs ys
  | _, _ => false
theorem eqVs_range {xs ys : List V} : ((List.range (min xs.length ys.length)).all (fun j => eqV (xs.getD j .non) (ys.getD j .non)) && xs.length == ys.length) = eqVs xs ys := by
  induction xs generalizing ys with
  | nil =>
    cases ys with
    | nil => rfl
    | cons y ys => simp [eqVs]
  | cons x xs ih =>
    cases ys with
    | nil => simp [eqVs]
    | cons y ys =>
      have h := @ih ys
      rw [eqVs, ← h, List.length_cons, List.length_cons, Nat.succ_min_succ, List.range_succ_eq_map, List.all_cons, List.all_map]
      have e1 : (xs.length + 1 == ys.length + 1) = (xs.length == ys.length) := by simp
      rw [e1]
      have e2 : (List.range (min xs.length ys.length)).all ((fun j => eqV ((x :: xs).getD j .non) ((y :: ys).getD j .non)) ∘ Nat.succ) = (List.range (min xs.length ys.length)).all (fun j => eqV (xs.getD j .non) (ys.getD j .non)) := rfl
      rw [e2, Bool.and_assoc]
      rfl
theorem op_eqTF {X : Cx} (hu : X.A.units < cLine) : OpR X (compareOp .Eq) (fun x y H Q => ∃ p q xs ys, x = .ref p ∧ y = .ref q ∧ SqT X.K H p xs ∧ SqT X.K H q ys ∧ xs.all flatV = true ∧ ys.all flatV = true ∧ Q (.bl (eqVs xs ys)) H) := by
  intro pins s σ H x y v u Q I rx ry h
  obtain ⟨p, q, xs, ys, rfl, rfl, hx, hy, fx, fy, hq⟩ := h
  cases rx
  cases ry
  obtain ⟨its, r, pl, hz⟩ := I.tuple hx
  obtain ⟨its2, r2, pl2, hz2⟩ := I.tuple hy
  refine SeqAt.eq_tupleAt (e := fun j => eqV (xs.getD j .non) (ys.getD j .non)) (show s.heap.IsTuple p its.toArray from pl) (show s.heap.IsTuple q its2.toArray from pl2) hu (fun j h1 h2 => ?_) ?_
  · have j1 : j < xs.length := by rw [r.length]; simpa using h1
    have j2 : j < ys.length := by rw [r2.length]; simpa using h2
    obtain ⟨u1, e1, q1⟩ := r.get (i := j) (x := xs[j]) (by simp [j1])
    obtain ⟨u2, e2, q2⟩ := r2.get (i := j) (x := ys[j]) (by simp [j2])
    have z1 : its.toArray[j] = u1 := by
      have := e1
      rw [List.getElem?_eq_getElem (by simpa using h1)] at this
      simpa using Option.some.inj this
    have z2 : its2.toArray[j] = u2 := by
      have := e2
      rw [List.getElem?_eq_getElem (by simpa using h2)] at this
      simpa using Option.some.inj this
    have g1 : xs.getD j .non = xs[j] := by simp [List.getD, j1]
    have g2 : ys.getD j .non = ys[j] := by simp [List.getD, j2]
    rw [z1, z2, g1, g2]
    exact eqAt_V q1 q2 (List.all_eq_true.mp fx _ (List.getElem_mem j1)) (List.all_eq_true.mp fy _ (List.getElem_mem j2))
  · rw [List.size_toArray, List.size_toArray, ← r.length, ← r2.length, eqVs_range]
    exact ⟨.bl _, H, I, rfl, hq⟩
theorem bt_isinstance : bootBuiltins "isinstance" = some (.builtin "isinstance") := by decide +kernel
theorem bt_len : bootBuiltins "len" = some (.builtin "len") := by decide +kernel
theorem bt_abs : bootBuiltins "abs" = some (.builtin "abs") := by decide +kernel
theorem bt_all : bootBuiltins "all" = some (.builtin "all") := by decide +kernel
theorem bt_sorted : bootBuiltins "sorted" = some (.builtin "sorted") := by decide +kernel
theorem bt_max : bootBuiltins "max" = some (.builtin "max") := by decide +kernel
theorem bt_int : bootBuiltins "int" = some (.type "int") := by decide +kernel
theorem bt_bool : bootBuiltins "bool" = some (.type "bool") := by decide +kernel
theorem bt_tuple : bootBuiltins "tuple" = some (.type "tuple") := by decide +kernel
theorem bt_list : bootBuiltins "list" = some (.type "list") := by decide +kernel
theorem bt_dict : bootBuiltins "dict" = some (.type "dict") := by decide +kernel
theorem bt_enumerate : bootBuiltins "enumerate" = some (.type "enumerate") := by decide +kernel
theorem iteY {c : Bool} {A B : Prop} (h : c = true) (a : A) : if c = true then A else B := by rw [if_pos h]; exact a
theorem iteN {c : Bool} {A B : Prop} (h : c = false) (b : B) : if c = true then A else B := by rw [if_neg (by rw [h]; decide)]; exact b
theorem dI {a b : Int} : decide (V.int a = V.int b) = decide (a = b) := by
  by_cases g : a = b
  · rw [g, decide_eq_true rfl, decide_eq_true rfl]
  · rw [decide_eq_false g, decide_eq_false (fun z => g (by injection z))]
theorem eqY {a b : Int} (h : a = b) : decide (V.int a = V.int b) = true := by rw [dI]; exact decide_eq_true h
theorem eqN {a b : Int} (h : ¬ a = b) : decide (V.int a = V.int b) = false := by rw [dI]; exact decide_eq_false h
theorem neY {a b : Int} (h : ¬ a = b) : (!decide (V.int a = V.int b)) = true := by rw [eqN h]; rfl
theorem neN {a b : Int} (h : a = b) : (!decide (V.int a = V.int b)) = false := by rw [eqY h]; rfl
end L2


set_option Elab.async false
set_option linter.all false
set_option maxRecDepth 100000
set_option maxHeartbeats 4000000
namespace L2
open PySem PySem.Spec PyProof.Rows
section
variable {X : Cx} {e v v₁ v₂ : Expr} {te : TE} {pos : Pos} {es : List Expr}
end
end L2


set_option Elab.async false
set_option linter.all false
set_option maxRecDepth 100000
set_option maxHeartbeats 4000000
namespace L2
open PySem PySem.Spec PyProof.Rows
section
variable {P : Program} {w : World} {K : PySem.W.Frag} {mg : Str → Option Value} {base : Heap}
end
section
variable {X : Cx} {k : Nat} {f : Addr} {fd : FuncData} {ps : List Str} {sp : Sp} {dvs : List V} {ds : List Value} {x : Str} {p pos : Pos} {e : Expr} {es : List Expr} {t : TA}
end
theorem FnOk.to0 {P : Program} {w : World} {K : PySem.W.Frag} {mg : Str → Option Value} {base : Heap} {k : Nat} {f : Addr} {fd : FuncData} {ps : List Str} {sp : Sp} (F : FnOk P w K mg base (CXF P w) k f fd ps sp) : FnOk P w K mg base CX0 k f fd ps (fun vs H Q _ => sp vs H Q E0) :=
  ⟨fun vs H Q E h => F.len vs H Q E0 h, fun A outer s H args us vs Q E hr he hb hv hs => codeAny_mono (F.run A outer s H args us vs Q E0 hr he hb hv hs) fun r s' q => by
    cases r with
    | error e => obtain ⟨_, _, _, _, _, _, _, _, z⟩ := q; exact False.elim z
    | ok fl => cases fl <;> exact q⟩
theorem eqAt_items {X : Cx} {A : Around} {s : Shared} {xs ys : List V} {its its2 : List Value} (r : Vals xs its) (r2 : Vals ys its2) (fx : xs.all flatV = true) (fy : ys.all flatV = true) (j : Nat) (h1 : j < its.toArray.size) (h2 : j < its2.toArray.size) :
    SeqAt.EqAt A s its.toArray[j] its2.toArray[j] (eqV (xs.getD j .non) (ys.getD j .non)) := by
  have j1 : j < xs.length := by rw [r.length]; simpa using h1
  have j2 : j < ys.length := by rw [r2.length]; simpa using h2
  obtain ⟨u1, e1, q1⟩ := r.get (i := j) (x := xs[j]) (by simp [j1])
  obtain ⟨u2, e2, q2⟩ := r2.get (i := j) (x := ys[j]) (by simp [j2])
  have z1 : its.toArray[j] = u1 := by
    have := e1
    rw [List.getElem?_eq_getElem (by simpa using h1)] at this
    simpa using Option.some.inj this
  have z2 : its2.toArray[j] = u2 := by
    have := e2
    rw [List.getElem?_eq_getElem (by simpa using h2)] at this
    simpa using Option.some.inj this
  have g1 : xs.getD j .non = xs[j] := by simp [List.getD, j1]
  have g2 : ys.getD j .non = ys[j] := by simp [List.getD, j2]
  rw [z1, z2, g1, g2]
  exact eqAt_V q1 q2 (List.all_eq_true.mp fx _ (List.getElem_mem j1)) (List.all_eq_true.mp fy _ (List.getElem_mem j2))
end L2


set_option Elab.async false
set_option linter.all false
set_option maxRecDepth 100000
set_option maxHeartbeats 4000000
namespace L2
open PySem PySem.Spec PyProof.Rows PySem.W Builtin.Str
theorem log_lt {n m : Nat} (h : n < 2 ^ m) (h0 : 0 < m) : n.log2 < m := by
  rcases Nat.eq_zero_or_pos n with e | p
  · subst e
    rw [show Nat.log2 0 = 0 by decide]
    exact h0
  · exact (Nat.log2_lt (Nat.ne_of_gt p)).mpr h
theorem bits_le {i : Int} {m : Nat} (h : i.natAbs < 2 ^ m) (h0 : 0 < m) : Builtin.Int.intBits i ≤ m := by
  unfold Builtin.Int.intBits
  split
  · exact Nat.zero_le _
  · have := log_lt h h0
    omega
def CMulF (i j : Int) : Prop := ∃ k : Nat, k ≤ 1048580 ∧ i.natAbs < 2 ^ k ∧ j.natAbs < 2 ^ k
theorem op_mulF {X : Cx} : OpR X (binaryOp .Mult) (rI CMulF fun i j => .int (i * j)) := opI fun i j _ _ _ _ _ hc q => mul_int q (by
  obtain ⟨k, hk, h1, h2⟩ := hc
  have a := bits_le (m := k + 1) (Nat.lt_of_lt_of_le h1 (Nat.pow_le_pow_right (by decide) (Nat.le_succ k))) (Nat.succ_pos k)
  have b := bits_le (m := k + 1) (Nat.lt_of_lt_of_le h2 (Nat.pow_le_pow_right (by decide) (Nat.le_succ k))) (Nat.succ_pos k)
  unfold IntMulOk
  have z : Builtin.Int.intTooBig (Builtin.Int.intBits i + Builtin.Int.intBits j) = false := by
    unfold Builtin.Int.intTooBig
    refine decide_eq_false ?_
    have e : ((bitsLine : Nat) : Int) = 134217728 := by decide +kernel
    rw [e]
    omega
  rw [z, Bool.and_false]
  exact Bool.false_ne_true)
end L2


set_option Elab.async false
set_option linter.all false
set_option maxRecDepth 100000
set_option maxHeartbeats 4000000
namespace L2
open PySem PySem.Spec PyProof.Rows
theorem noFree {X : Cx} {names : List (Str × NameKind)} (h : names.all (fun y => y.2 != .free) = true) : ∀ y ∈ names, y.2 = .free → X.env.kindOf y.1 = some .cell ∨ X.env.kindOf y.1 = some .free := fun y hy hf => by
  have := List.all_eq_true.mp h y hy
  rw [hf] at this
  exact absurd this (by decide)
theorem visC {X : Cx} {scope : Scope} (st : Stmt) (h : ∀ y ∈ scope.names, y.2 = .free → (defScope st).names.lookup y.1 = some .cell) (he : X.env.scope = defScope st := by rfl) : ∀ y ∈ scope.names, y.2 = .free → X.env.kindOf y.1 = some .cell ∨ X.env.kindOf y.1 = some .free := fun y hy hf => by
  refine .inl ?_
  show X.env.scope.names.lookup y.1 = some .cell
  rw [he]
  exact h y hy hf
theorem frees_of {X : Cx} {scope : Scope} (ts : List Str) (fs : List (Str × Nat)) (N0 : List Str) (h : ∀ p ∈ fs, scope.names.lookup p.1 = some .free ∧ N0[p.2]? = some p.1) (hN : X.N = N0 := by rfl) :
    Frees X scope (ts ++ fs.map (·.1)) (fun σ => ts.map (fun _ => none) ++ fs.map fun p => (σ[p.2]?).join) where
  len := fun σ => by simp
  at_ := fun σ i y v e1 e2 => by
    by_cases hi : i < ts.length
    · rw [List.getElem?_append_left (by simpa using hi), List.getElem?_map, List.getElem?_eq_getElem hi] at e2
      cases e2
    · rw [List.getElem?_append_right (by simpa using hi), List.getElem?_map] at e1 e2
      rw [List.length_map] at e2
      cases q : fs[i - ts.length]? with
      | none => rw [q] at e1; cases e1
      | some p =>
        rw [q] at e1 e2
        have e1' : p.1 = y := Option.some.inj e1
        have e2' : (σ[p.2]?).join = some v := Option.some.inj e2
        subst e1'
        obtain ⟨a, b⟩ := h p (List.mem_of_getElem? q)
        refine ⟨a, p.2, by rw [hN]; exact b, ?_⟩
        cases z : σ[p.2]? with
        | none => rw [z] at e2'; cases e2'
        | some o =>
          rw [z] at e2'
          have : o = some v := e2'
          rw [this]
theorem relab_other {env : Env} : ∀ {names : List (Str × NameKind)} {x : Str} {k : NameKind}, k ≠ .free → names.lookup x = some k →
    (names.map fun (n, k) => if (k == NameKind.free && env.scope.kind == .function && env.kindOf n == some .cell) then (n, NameKind.cell) else (n, k)).lookup x = some k
  | [], _, _, _, h => by cases h
  | (n, k') :: r, x, k, hk, h => by
    have ih := @relab_other env r x k hk
    show List.lookup x ((if (k' == NameKind.free && env.scope.kind == .function && env.kindOf n == some .cell) = true then (n, NameKind.cell) else (n, k')) :: _) = some k
    rw [List.lookup_cons] at h
    by_cases hx : (x == n) = true
    · rw [hx] at h
      have e : k' = k := Option.some.inj h
      subst e
      rw [if_neg, List.lookup_cons, hx]
      intro c
      simp only [Bool.and_eq_true, beq_iff_eq] at c
      exact hk c.1.1
    · have hx' : (x == n) = false := by simpa using hx
      rw [hx'] at h
      split
      · rw [List.lookup_cons, hx']; exact ih h
      · rw [List.lookup_cons, hx']; exact ih h
section
variable {X : Cx} {N : List Str} {scope : Scope} {cl : List (Str × Addr)} {C : Addr} {s : Shared} {H : Hp} {fp : List Addr} {pins : List (Addr × Obj)} {x : Str}
theorem c_loc (h : scope.names.lookup x = some .local) : (cxComp X N scope cl C s H fp pins).env.scope.names.lookup x = some .local := relab_other (by decide) h
theorem c_vloc (h : scope.names.lookup x = some .local) : Vis (cxComp X N scope cl C s H fp pins).env.scope x := .inl (c_loc h)
theorem c_free (h : scope.names.lookup x = some .free) : Vis (cxComp X N scope cl C s H fp pins).env.scope x := .inr (relabel_free h)
theorem c_gl (h : scope.names.lookup x = some .globalImplicit) : Gl (cxComp X N scope cl C s H fp pins) x := relab_other (by decide) h
end
section
variable {X : Cx} {es : List Expr} {te : TE} {t : TA}
theorem pa_BinOp {a b : Expr} {o : Operator} {c : Pos} (ha : PE X (.BinOp a o b c) te) (hr : PA X es t) : PA X ((.BinOp a o b c) :: es) (tCons te t) := pa_cons ha hr rfl
theorem pa_UnaryOp {o : UnaryOp} {a : Expr} {c : Pos} (ha : PE X (.UnaryOp o a c) te) (hr : PA X es t) : PA X ((.UnaryOp o a c) :: es) (tCons te t) := pa_cons ha hr rfl
theorem pa_ListComp {a : Expr} {b : List Comprehension} {d : Scope} {c : Pos} (ha : PE X (.ListComp a b d c) te) (hr : PA X es t) : PA X ((.ListComp a b d c) :: es) (tCons te t) := pa_cons ha hr rfl
theorem pa_Compare {a : Expr} {o : List CmpOp} {b : List Expr} {c : Pos} (ha : PE X (.Compare a o b c) te) (hr : PA X es t) : PA X ((.Compare a o b c) :: es) (tCons te t) := pa_cons ha hr rfl
theorem pa_Call {a : Expr} {b : List Expr} {d : List Keyword} {c : Pos} (ha : PE X (.Call a b d c) te) (hr : PA X es t) : PA X ((.Call a b d c) :: es) (tCons te t) := pa_cons ha hr rfl
theorem pa_Constant {a : Const} {b : Nat} {c : Pos} (ha : PE X (.Constant a b c) te) (hr : PA X es t) : PA X ((.Constant a b c) :: es) (tCons te t) := pa_cons ha hr rfl
theorem pa_Subscript {a b : Expr} {c : Pos} (ha : PE X (.Subscript a b c) te) (hr : PA X es t) : PA X ((.Subscript a b c) :: es) (tCons te t) := pa_cons ha hr rfl
theorem pa_Name {a : Str} {c : Pos} (ha : PE X (.Name a c) te) (hr : PA X es t) : PA X ((.Name a c) :: es) (tCons te t) := pa_cons ha hr rfl
theorem pa_Tuple {b : List Expr} {a : Nat} {c : Pos} (ha : PE X (.Tuple b a c) te) (hr : PA X es t) : PA X ((.Tuple b a c) :: es) (tCons te t) := pa_cons ha hr rfl
end
end L2


set_option Elab.async false
set_option linter.all false
set_option maxRecDepth 100000
set_option maxHeartbeats 4000000
namespace L2
open PySem PySem.Spec PyProof.Rows
def Tells (t : TT) (σ : St) (H : Hp) (b : Bool) : Prop := ∀ R : Bool → Hp → Prop, (∀ H', Same H H' → R b H') → t σ H R
theorem Tells.and {tA tB : TT} {σ : St} {H : Hp} {a b : Bool} (hA : Tells tA σ H a) (hB : a = true → ∀ H', Same H H' → Tells tB σ H' b) : Tells (tAnd tA tB) σ H (a && b) := by
  intro R h
  refine hA _ fun H1 s1 => ?_
  cases a with
  | false => exact h H1 s1
  | true =>
    rw [if_pos rfl]
    exact hB rfl H1 s1 _ fun H2 s2 => h H2 (s1.trans s2)
theorem ifS_by {c : TT} {t u : TS} {D : Ends} {σ : St} {H : Hp} {b : Bool} (hc : Tells c σ H b) (h1 : b = true → ∀ H', Same H H' → t D σ H') (h0 : b = false → ∀ H', Same H H' → u D σ H') : tIfS c t u D σ H := by
  refine hc _ fun H' s => ?_
  cases b with
  | true => exact h1 rfl H' s
  | false => exact h0 rfl H' s
theorem same_upd {H H' : Hp} {p : Addr} {o : HO} (s : Same H H') (h : H p = none) : Same H (upd H' p o) := fun b u e => by
  rw [upd_ne (ne_of_none e h)]
  exact s b u e
end L2


set_option Elab.async false
set_option linter.all false
set_option maxRecDepth 100000
set_option maxHeartbeats 4000000
namespace L2
open PySem PySem.Spec PyProof.Rows
end L2


set_option Elab.async false
set_option linter.all false
set_option maxRecDepth 100000
set_option maxHeartbeats 4000000
namespace L2
open PySem PySem.Spec PyProof.Rows
theorem Same.seqT {K : PySem.W.Frag} {H H' : Hp} {a : Addr} {xs : List V} (e : Same H H') (h : SqT K H a xs) : SqT K H' a xs := by
  rcases h with (h | ⟨o, h⟩) | h
  · exact .inl (.inl (e _ _ h))
  · exact .inl (.inr ⟨o, e _ _ h⟩)
  · exact .inr h
def Alike (K : PySem.W.Frag) (H : Hp) : Nat → V → V → Prop
  | 0, x, y => flatV x = true ∧ flatV y = true ∧ eqV x y = true
  | n + 1, x, y => (flatV x = true ∧ flatV y = true ∧ eqV x y = true) ∨
      ∃ p q xs ys, x = .ref p ∧ y = .ref q ∧ ((SqT K H p xs ∧ SqT K H q ys) ∨ (SqL K H p xs ∧ SqL K H q ys)) ∧ Paired (Alike K H n) xs ys
theorem Alike.flat {K : PySem.W.Frag} {H : Hp} {n : Nat} {x y : V} (a : flatV x = true) (b : flatV y = true) (c : eqV x y = true) : Alike K H n x y := by
  cases n with
  | zero => exact ⟨a, b, c⟩
  | succ n => exact .inl ⟨a, b, c⟩
theorem Alike.int {K : PySem.W.Frag} {H : Hp} {n : Nat} (i : Int) : Alike K H n (.int i) (.int i) := Alike.flat rfl rfl (beq_self_eq_true i)
theorem Alike.tup {K : PySem.W.Frag} {H : Hp} {n : Nat} {p q : Addr} {xs ys : List V} (a : SqT K H p xs) (b : SqT K H q ys) (c : Paired (Alike K H n) xs ys) : Alike K H (n + 1) (.ref p) (.ref q) := .inr ⟨p, q, xs, ys, rfl, rfl, .inl ⟨a, b⟩, c⟩
theorem pair_get {α β : Type} {F : α → β → Prop} : ∀ {xs : List α} {ys : List β}, Paired F xs ys → ∀ (j : Nat) (a : α) (b : β), xs[j]? = some a → ys[j]? = some b → F a b
  | _, _, .nil, _, _, _, h, _ => by cases h
  | x :: xs, y :: ys, .cons r t, j, a, b, h1, h2 => by
    cases j with
    | zero => cases h1; cases h2; exact r
    | succ j => exact pair_get t j a b (by simpa using h1) (by simpa using h2)
section
variable {X : Cx} {pins : List (Addr × Obj)} {σ : St} {H : Hp} {s : Shared}
theorem all_true (n : Nat) : (List.range n).all (fun _ => true) = true := List.all_eq_true.mpr fun _ _ => rfl
theorem items_alike {n : Nat} {A : Around} {xs ys : List V} {its its2 : List Value} (r : Vals xs its) (r2 : Vals ys its2) (pr : Paired (Alike X.K H n) xs ys)
    (ih : ∀ x y u v, Alike X.K H n x y → RelV x u → RelV y v → SeqAt.EqAt A s u v true) (j : Nat) (h1 : j < its.toArray.size) (h2 : j < its2.toArray.size) : SeqAt.EqAt A s its.toArray[j] its2.toArray[j] true := by
  have j1 : j < xs.length := by rw [r.length]; simpa using h1
  have j2 : j < ys.length := by rw [r2.length]; simpa using h2
  obtain ⟨u1, e1, q1⟩ := r.get (i := j) (x := xs[j]) (by simp [j1])
  obtain ⟨u2, e2, q2⟩ := r2.get (i := j) (x := ys[j]) (by simp [j2])
  have z1 : its.toArray[j] = u1 := by
    have := e1
    rw [List.getElem?_eq_getElem (by simpa using h1)] at this
    simpa using Option.some.inj this
  have z2 : its2.toArray[j] = u2 := by
    have := e2
    rw [List.getElem?_eq_getElem (by simpa using h2)] at this
    simpa using Option.some.inj this
  rw [z1, z2]
  exact ih _ _ _ _ (pair_get pr j _ _ (List.getElem?_eq_getElem j1) (List.getElem?_eq_getElem j2)) q1 q2
theorem eqAt_alike (I : Inv X pins σ H s) : ∀ (n : Nat) (A : Around) (x y : V) (u v : Value), A.units + n < cLine → Alike X.K H n x y → RelV x u → RelV y v → SeqAt.EqAt A s u v true
  | 0, A, x, y, u, v, _, h, rx, ry => by
    have := eqAt_V (A := A) (s := s) rx ry h.1 h.2.1
    rw [h.2.2] at this
    exact this
  | n + 1, A, x, y, u, v, hu, h, rx, ry => by
    rcases h with h | ⟨p, q, xs, ys, rfl, rfl, hq, pr⟩
    · have := eqAt_V (A := A) (s := s) rx ry h.1 h.2.1
      rw [h.2.2] at this
      exact this
    · cases (show u = Value.ref p from rx)
      cases (show v = Value.ref q from ry)
      by_cases hpq : p = q
      · subst hpq
        exact SeqAt.EqAt.same _
      · refine SeqAt.EqAt.of_refs hpq ?_
        have hl := pr.length
        have ih := fun x y u v => eqAt_alike I n A.in1 x y u v (by show A.units + 1 + n < cLine; omega)
        rcases hq with ⟨h1, h2⟩ | ⟨h1, h2⟩
        · obtain ⟨its, r, pl, _⟩ := I.tuple h1
          obtain ⟨its2, r2, pl2, _⟩ := I.tuple h2
          have := SeqAt.RcAt.tuples (A := A) (e := fun _ => true) (show s.heap.IsTuple p its.toArray from pl) (show s.heap.IsTuple q its2.toArray from pl2) (by omega) (fun j a b => items_alike r r2 pr ih j a b)
          rw [all_true, List.size_toArray, List.size_toArray, ← r.length, ← r2.length, hl, beq_self_eq_true] at this
          exact this
        · obtain ⟨its, r, pl, _⟩ := I.list h1
          obtain ⟨its2, r2, pl2, _⟩ := I.list h2
          have := SeqAt.RcAt.lists (A := A) (e := fun _ => true) pl.isList pl2.isList (by rw [List.size_toArray, List.size_toArray, ← r.length, ← r2.length, hl]) (by omega) (fun j a b => items_alike r r2 pr ih j a b)
          rw [all_true] at this
          exact this
end
def rAlike (K : PySem.W.Frag) (b : Bool) : R2 := fun x y H Q => ∃ p q xs ys, x = .ref p ∧ y = .ref q ∧ ((SqT K H p xs ∧ SqT K H q ys) ∨ (SqL K H p xs ∧ SqL K H q ys)) ∧ Paired (Alike K H 40) xs ys ∧ Q (.bl b) H
theorem op_eqA {X : Cx} {K : PySem.W.Frag} (hK : X.K = K) (hu : X.A.units + 64 < cLine) : OpR X (compareOp .Eq) (rAlike K true) := by
  subst hK
  intro pins s σ H x y v u Q I rx ry h
  obtain ⟨p, q, xs, ys, rfl, rfl, hq, pr, k⟩ := h
  cases rx
  cases ry
  have hl := pr.length
  have ih := fun x y u v => eqAt_alike I 40 X.A.in1 x y u v (by show X.A.units + 1 + 40 < cLine; omega)
  rcases hq with ⟨h1, h2⟩ | ⟨h1, h2⟩
  · obtain ⟨its, r, pl, _⟩ := I.tuple h1
    obtain ⟨its2, r2, pl2, _⟩ := I.tuple h2
    refine SeqAt.eq_tupleAt (e := fun _ => true) (show s.heap.IsTuple p its.toArray from pl) (show s.heap.IsTuple q its2.toArray from pl2) (by omega) (fun j a b => items_alike r r2 pr ih j a b) ?_
    rw [all_true, List.size_toArray, List.size_toArray, ← r.length, ← r2.length, hl, beq_self_eq_true]
    exact ⟨.bl _, H, I, rfl, k⟩
  · obtain ⟨its, r, pl, _⟩ := I.list h1
    obtain ⟨its2, r2, pl2, _⟩ := I.list h2
    refine SeqAt.eq_listAt (e := fun _ => true) pl.isList pl2.isList (by rw [List.size_toArray, List.size_toArray, ← r.length, ← r2.length, hl]) (by omega) (fun j a b => items_alike r r2 pr ih j a b) ?_
    rw [all_true]
    exact ⟨.bl _, H, I, rfl, k⟩
theorem op_neA {X : Cx} {K : PySem.W.Frag} (hK : X.K = K) (hu : X.A.units + 64 < cLine) : OpR X (compareOp .NotEq) (rAlike K false) := by
  subst hK
  intro pins s σ H x y v u Q I rx ry h
  obtain ⟨p, q, xs, ys, rfl, rfl, hq, pr, k⟩ := h
  cases rx
  cases ry
  have hl := pr.length
  have ih := fun x y u v => eqAt_alike I 40 X.A.in1 x y u v (by show X.A.units + 1 + 40 < cLine; omega)
  rcases hq with ⟨h1, h2⟩ | ⟨h1, h2⟩
  · obtain ⟨its, r, pl, _⟩ := I.tuple h1
    obtain ⟨its2, r2, pl2, _⟩ := I.tuple h2
    refine SeqAt.RcNeAt.tuples (e := fun _ => true) (show s.heap.IsTuple p its.toArray from pl) (show s.heap.IsTuple q its2.toArray from pl2) (by omega) (fun j a b => items_alike r r2 pr ih j a b) _ _ _ _ ?_
    rw [all_true, List.size_toArray, List.size_toArray, ← r.length, ← r2.length, hl, beq_self_eq_true]
    exact ⟨.bl _, H, I, rfl, k⟩
  · obtain ⟨its, r, pl, _⟩ := I.list h1
    obtain ⟨its2, r2, pl2, _⟩ := I.list h2
    refine SeqAt.RcNeAt.lists (e := fun _ => true) pl.isList pl2.isList (by rw [List.size_toArray, List.size_toArray, ← r.length, ← r2.length, hl]) (by omega) (fun j a b => items_alike r r2 pr ih j a b) _ _ _ _ ?_
    rw [all_true]
    exact ⟨.bl _, H, I, rfl, k⟩
theorem op_neTF {X : Cx} {K : PySem.W.Frag} (hK : X.K = K) (hu : X.A.units < cLine) : OpR X (compareOp .NotEq) (fun x y H Q => ∃ p q xs ys, x = .ref p ∧ y = .ref q ∧ SqT K H p xs ∧ SqT K H q ys ∧ xs.all flatV = true ∧ ys.all flatV = true ∧ Q (.bl (!eqVs xs ys)) H) := by
  subst hK
  intro pins s σ H x y v u Q I rx ry h
  obtain ⟨p, q, xs, ys, rfl, rfl, hx, hy, fx, fy, hq⟩ := h
  cases rx
  cases ry
  obtain ⟨its, r, pl, hz⟩ := I.tuple hx
  obtain ⟨its2, r2, pl2, hz2⟩ := I.tuple hy
  refine SeqAt.RcNeAt.tuples (e := fun j => eqV (xs.getD j .non) (ys.getD j .non)) (show s.heap.IsTuple p its.toArray from pl) (show s.heap.IsTuple q its2.toArray from pl2) hu (fun j h1 h2 => eqAt_items (X := X) r r2 fx fy j h1 h2) _ _ _ _ ?_
  rw [List.size_toArray, List.size_toArray, ← r.length, ← r2.length, eqVs_range]
  exact ⟨.bl _, H, I, rfl, hq⟩
end L2


set_option Elab.async false
set_option linter.all false
set_option maxRecDepth 100000
set_option maxHeartbeats 4000000
namespace Dt
open PySem PySem.Spec PyProof.Rows
theorem entry_loop : entryFor table "dict.update.loop" = some Builtin.«dict.update.loop» := entryFor_of_tree (by kernel_rfl)
theorem plain_loop : plainId "dict.update.loop" = true := by decide +kernel
theorem miss_keys : typeLookup (.type "tuple") "keys" = pure none := am_miss_of_fast (by decide +kernel)
section
variable {prog : Program} {w : World} {A : Around} {E : Value → Shared → Prop} {s : Shared}
theorem quiet_tuple {a : Addr} {o : Obj} {xs : Array Value} {k : Nat} {name : Str} {Q : Option Value → Shared → Prop}
    (hx : s.heap.get? a = some o) (hc : o.cls = .type "tuple") (hdat : o.data = .seq xs k) (hd : o.dict = none) (hmiss : typeLookup (.type "tuple") name = pure none)
    (hname : (["__module__", "__name__", "__qualname__", "__doc__", "__annotations__"] : List Str).contains name = false) (hA : A.handled = none)
    (h : ∀ h' tk, (∀ b u, s.heap.get? b = some u → h'.get? b = some u) → Q none { s with heap := h', toks := tk }) (hsz : name.length + 100 ≤ sizeLine := by size_fits) :
    wpAny (model prog w) A (getAttr? (.ref a) name) Q E s := by
  obtain ⟨c, dct, dat, sl⟩ := o
  simp only at hc hdat hd
  subst hc hdat hd
  obtain ⟨hp, g, d, tk, os⟩ := s
  have hT : ∀ tk', (⟨hp, g, d, tk', os⟩ : Shared).TypeIs (.ref a) "tuple" := fun _ => ⟨_, hx, rfl⟩
  have f1 := sub_AttributeError
  have f3 := PySem.F.slot_tuple_getattribute.lookup
  have f4 := PySem.F.slot_tuple_getattribute.bind (.ref a)
  have f5 := am_tuple_getattr_none
  unfold getAttr? getAttrBy? getAttrBy
  repeat (any_goals (first | assumption | exact hT _ | ((with_reducible show wpAny _ _ (call (Value.builtin "tuple.__getattribute__") _ _) _ _ _); refine call_meets PySem.F.slot_tuple_getattribute (hT _) am_entry_tuple_getattribute (PySem.F.args_tuple_getattribute_2 _ _) (meets_getattribute_miss_tuple a xs k sl name _ hmiss hname hsz) ⟨hx, hA, fun h' tk' e hx' => ?_⟩) | wp_step))
  obtain ⟨t', u', he⟩ := hx'.there
  show wpAny _ _ (getattributeRaised _ _ _ _ _ _ _) _ _ _
  unfold getattributeRaised
  repeat (any_goals (first | assumption | wp_step))
  all_goals exact h _ _ hx'.keeps
end
section
variable {prog : Program} {w : World} {K : Type} [DecidableEq K] {knd : KeyKind prog w K} {A : Around} {E : Value → Shared → Prop} {s : Shared}
def PairAt (knd : KeyKind prog w K) (h : Heap) (u : Value) (kv : K × Value) : Prop := ∃ p key, u = .ref p ∧ h.IsTuple p #[key, kv.2] ∧ knd.is kv.1 key = true
theorem dictOf_keep {h h' : Heap} {d : Addr} {kvs : List (K × Value)} (x : h.DictOf knd d kvs) (k : ∀ o, h.get? d = some o → h'.get? d = some o) : h'.DictOf knd d kvs := by
  obtain ⟨o, es, ep, e, r⟩ := x
  exact ⟨o, es, ep, k _ e, r⟩
theorem loop {h₀ : Heap} {d it t : Addr} {items : Array Value} {kvs : List (K × Value)} {R : Result → Shared → Prop} (hh : A.handled = none) (hd0 : h₀.get? d = none) (hi0 : h₀.get? it = none) (hdi : d ≠ it)
    (ht : h₀.IsTuple t items) (hlen : items.size = kvs.length) (hp : ∀ (j : Nat) u kv, items[j]? = some u → kvs[j]? = some kv → PairAt knd h₀ u kv) (hsz : kvs.length ≤ sizeLine) :
    ∀ (k i : Nat) (s : Shared), kvs.length - i = k → i ≤ kvs.length → (∀ b o, h₀.get? b = some o → s.heap.get? b = some o) → s.heap.IsTupleIter it t i → s.heap.DictOf knd d (merged [] (kvs.take i)) →
      (∀ h' tk, (∀ b o, h₀.get? b = some o → h'.get? b = some o) → h'.DictOf knd d (merged [] kvs) → R (.ok (.ret .none)) { s with heap := h', toks := tk }) →
      codeAny (model prog w) A (.builtin "dict.update.loop" ⟨[.ref d, .ref it, rawInt i, .none], []⟩) R s := by
  have tk0 : ∀ {h : Heap}, (∀ b o, h₀.get? b = some o → h.get? b = some o) → h.IsTuple t items := fun k => by
    obtain ⟨o, e, r⟩ := ht
    exact ⟨o, k _ _ e, r⟩
  have nd : ∀ b o, h₀.get? b = some o → b ≠ d := fun b o e z => by rw [z, hd0] at e; cases e
  have ni : ∀ b o, h₀.get? b = some o → b ≠ it := fun b o e z => by rw [z, hi0] at e; cases e
  intro k
  induction k with
  | zero =>
    intro i s hk hi kp hit hD hR
    have hin : i = kvs.length := by omega
    subst hin
    refine codeAny_builtin entry_loop ?_
    rw [Around.under_plainId plain_loop _]
    show wpAny _ A.in1 (pyNext (.ref it) >>= _) _ _ s
    refine wpAny_bind (wpAny_pyNext_tuple_end (A := A.in1) hh hit (tk0 kp) (by rw [Array.getElem?_eq_none_iff]; omega) fun h' eb => ?_)
    show wpAny _ A.in1 (Builtin.Dict.addKeywords d [] >>= _) _ _ _
    refine wpAny_bind (wpAny_pure (wpAny_pure (hR h' s.toks (fun b o e => eb b o (ni b o e) (kp b o e)) ?_)))
    rw [List.take_length] at hD
    exact dictOf_keep hD fun o e => eb d o hdi e
  | succ k ih =>
    intro i s hk hi kp hit hD hR
    have hlt : i < kvs.length := by omega
    have hit' : i < items.size := by omega
    refine codeAny_builtin entry_loop ?_
    rw [Around.under_plainId plain_loop _]
    show wpAny _ A.in1 (pyNext (.ref it) >>= _) _ _ s
    obtain ⟨p, key, eu, hpt, hk1⟩ := hp i items[i] kvs[i] (Array.getElem?_eq_getElem hit') (List.getElem?_eq_getElem hlt)
    refine wpAny_bind (wpAny_pyNext_tuple_item hit (tk0 kp) (Array.getElem?_eq_getElem hit') fun h' st' sb => ?_)
    have kp1 : ∀ b o, h₀.get? b = some o → h'.get? b = some o := fun b o e => (sb.2 b (ni b o e)).trans (kp b o e)
    have hD1 : h'.DictOf knd d (merged [] (kvs.take i)) := dictOf_keep hD fun o e => (sb.2 d hdi).trans e
    obtain ⟨op, ep, cp, np, dp⟩ := hpt
    have ep1 := kp1 _ _ ep
    rw [eu]
    show wpAny _ A.in1 (holding [Value.ref p] _ >>= _) _ _ _
    refine wpAny_bind (wpAny_holding ?_)
    refine wpAny_bind (wpAny_tryCatch ?_)
    unfold Builtin.Dict.pairItems
    refine wpAny_bind (wpAny_typeOf (T := "tuple") ⟨op, ep1, cp⟩ ?_)
    rw [if_pos (by decide)]
    refine wpAny_bind (wpAny_seqItems ep1 dp ?_)
    refine wpAny_pure ?_
    show wpAny _ A.in1 (holding [key, kvs[i].2] (dictSet d key kvs[i].2)) _ _ _
    refine wpAny_holding (wpAny_dictSet_pairs hk1 hD1 (fun h2 hD2 sb2 => ?_) ?_)
    · refine wpAny_pure ⟨plainId_quiet plain_loop _, ?_⟩
      have st2 : h2.IsTupleIter it t (i + 1) := by
        obtain ⟨o, e, r⟩ := st'
        exact ⟨o, (sb2.2 it (Ne.symm hdi)).trans e, r⟩
      have kp2 : ∀ b o, h₀.get? b = some o → h2.get? b = some o := fun b o e => (sb2.2 b (nd b o e)).trans (kp1 b o e)
      have e2 : merged [] (kvs.take (i + 1)) = stored (merged [] (kvs.take i)) kvs[i].1 kvs[i].2 := merged_take_succ [] kvs i kvs[i] (List.getElem?_eq_getElem hlt)
      exact ih (i + 1) _ (by omega) hlt kp2 st2 (by rw [e2]; exact hD2) fun h3 tk k3 d3 => hR h3 tk k3 d3
    · have := merged_length_le ([] : List (K × Value)) (kvs.take i)
      rw [List.length_take] at this
      simp only [List.length_nil] at this
      omega
theorem call_tuple {t : Addr} {o : Obj} {items : Array Value} {n : Nat} {kvs : List (K × Value)} {Q : Value → Shared → Prop} (hh : A.handled = none)
    (hx : s.heap.get? t = some o) (hc : o.cls = .type "tuple") (hdat : o.data = .seq items n) (hdn : o.dict = none) (hlen : items.size = kvs.length) (hp : ∀ (j : Nat) u kv, items[j]? = some u → kvs[j]? = some kv → PairAt knd s.heap u kv) (hsz : kvs.length ≤ sizeLine)
    (h : ∀ h' tk, (∀ b o, s.heap.get? b = some o → h'.get? b = some o) → h'.DictOf knd s.heap.objs.size (merged [] kvs) → Q (.ref s.heap.objs.size) { s with heap := h', toks := tk }) :
    wpAny (model prog w) A (call (.type "dict") [.ref t]) Q E s := by
  refine callType_codes (Q₁ := fun obj s₁ => obj = .ref s.heap.objs.size ∧ s₁ = { s with heap := s.heap.push { cls := .type "dict", data := .dict #[] } }) PySem.F.kt_called_dict (PySem.F.kt_typeCall_dict_1 _) PySem.F.entry_dict_init (kt_code_dict_new _ ⟨rfl, rfl⟩) ?_
  rintro obj s₁ ⟨rfl, rfl⟩
  have hnew : (s.heap.push { cls := .type "dict", data := .dict #[] }).DictOf knd s.heap.objs.size [] := Heap.DictOf.new s.heap
  refine ⟨hnew.typeIs, PySem.F.args_dict_init_2 _ _, ?_⟩
  unfold Builtin.«dict.__init__»
  refine wpAny_bind ?_
  unfold Builtin.Dict.selfAndRest
  refine wpAny_bind (wpAny_notOrdered_dict hnew.typeIs ?_)
  show wpAny _ _ (pure (s.heap.objs.size, [Value.ref t])) _ _ _
  refine wpAny_pure ?_
  show wpAny _ _ (Builtin.Dict.updateFrom "dict.__init__" s.heap.objs.size (.ref t) [] .none) _ _ _
  unfold Builtin.Dict.updateFrom
  have hx1 : (s.heap.push { cls := .type "dict", data := .dict #[] }).get? t = some o := Heap.get?_push_of_some _ hx
  refine wpAny_bind (wpAny_typeOf (T := "tuple") ⟨o, hx1, hc⟩ ?_)
  rw [if_pos (by decide)]
  refine wpAny_bind (quiet_tuple hx1 hc hdat hdn miss_keys (by decide +kernel) hh fun h1 tk1 k1 => ?_)
  rw [if_pos (by rfl)]
  refine wpAny_bind (wpAny_rule ?_)
  have kp1 : ∀ b u, s.heap.get? b = some u → h1.get? b = some u := fun b u e => k1 b u (Heap.get?_push_of_some _ e)
  have ht : s.heap.IsTuple t items := ⟨o, hx, hc, n, hdat⟩
  have ht1 : h1.IsTuple t items := ⟨o, kp1 _ _ hx, hc, n, hdat⟩
  refine wpAny_bind (wpAny_pyIter_tuple ht1 ?_)
  have hD1 : h1.DictOf knd s.heap.objs.size [] := dictOf_keep hnew fun o e => k1 _ _ e
  have hlt : s.heap.objs.size < h1.objs.size := let ⟨_, _, _, e, _⟩ := hD1; Heap.lt_size e
  have hle : s.heap.objs.size ≤ h1.objs.size := Nat.le_of_lt hlt
  refine wpAny_pure ⟨plainId_quiet plain_loop _, ?_⟩
  refine loop (A := A.in1) (knd := knd) (h₀ := s.heap) (items := items) (kvs := kvs) hh (Heap.get?_none_of_le (Nat.le_refl _)) (Heap.get?_none_of_le hle) (Nat.ne_of_lt hlt) ht hlen hp hsz kvs.length 0 { s with heap := h1.push { cls := .type "tuple_iterator", data := .fields #[.ref t, .int 0 0] }, toks := tk1 } (by omega) (Nat.zero_le _) (fun b u e => Heap.get?_push_of_some _ (kp1 b u e)) ⟨_, Heap.get?_push_size _ rfl, rfl, rfl⟩ (hD1.push _) fun h2 tk2 k2 d2 => ?_
  exact ⟨rfl, h h2 tk2 k2 d2⟩
end
end Dt
namespace Dt
open PySem PySem.Spec PyProof.Rows
section
variable {prog : Program} {w : World} {K : Type} [DecidableEq K] {knd : KeyKind prog w K} {A : Around} {E : Value → Shared → Prop} {s : Shared}
theorem sorted_dict {d : Addr} {kvs : List (K × Value)} {ns : List Int} {Q : Value → Shared → Prop} (hh : A.handled = none) (lo : (d == sysModules) = false) (hd : s.heap.DictOf knd d kvs) (h64 : kvs.length < 64)
    (hI : ∀ vs : List Value, vs.length = kvs.length → (∀ (j : Nat) v, vs[j]? = some v → ∃ k x, kvs[j]? = some (k, x) ∧ knd.is k v = true) → IntsAre vs ns)
    (h : ∀ B h' tk out n ns', (∀ b o, s.heap.get? b = some o → h'.get? b = some o) → s.heap.get? B = none → h'.get? B = some (seqObj "list" out n) → IntsAre out.toList ns' → ns'.Perm ns → ns'.Pairwise (· ≤ ·) → Q (.ref B) { s with heap := h', toks := tk }) :
    wpAny (model prog w) A (call (.builtin "sorted") [.ref d]) Q E s := by
  obtain ⟨ep, hat⟩ := hd.dictAt
  refine Calls.call_function_entry kind_sorted plain_sorted entry_sorted (args_sorted1 _) ?_
  unfold Builtin.«sorted»
  refine wpAny_bind (m := checkCount "sorted" 1 1 _) (wpAny_pure ?_)
  refine wpAny_bind (PySem.W.kdu_collect (A := A.in1) (PySem.W.kdl_dict (knd := knd) (kvs := kvs) (ep := ep) lo) hh hat (by rw [sizeLine_eq]; omega) fun h' tk acc hk hacc => ?_)
  have hl : acc.toList.length = kvs.length := by rw [Array.length_toList]; exact hacc.1
  refine wpAny_bind (wpAny_newList ?_ (by rw [hl, sizeLine_eq]; omega))
  have hI' := hI acc.toList hl fun j v e => hacc.2 j v (by rw [← Array.getElem?_toList]; exact e)
  have hoL : (h'.push { cls := .type "list", data := .seq acc.toList.toArray }).get? h'.objs.size = some (seqObj "list" acc.toList.toArray 0) := Heap.get?_push_size _ rfl
  refine wpAny_bind (wpAny_holding (wpAny_call_entry slot_list_sort ⟨_, hoL, rfl⟩ entry_list_sort (list_sort_tree hoL hI' (by omega) fun out ns' a1 a2 a3 => ⟨_, rfl, ?_⟩) (args_list_sort _)))
  refine wpAny_pure ⟨_, rfl, ?_⟩
  obtain ⟨e, he⟩ := sortedHeap_at (out := out) hoL
  refine h h'.objs.size _ tk out e ns' (fun b o q => ?_) ?_ he a1 a2 a3
  · have q' := hk b o q
    have lt := Heap.lt_size q'
    rw [sortedHeap_old (Nat.ne_of_lt lt) (by rw [size_push']; exact Nat.lt_succ_of_lt lt)]
    exact Heap.get?_push_of_some _ q'
  · cases z : s.heap.get? h'.objs.size with
    | none => rfl
    | some o => exact absurd (Heap.lt_size (hk _ _ z)) (Nat.lt_irrefl _)
end
end Dt


set_option Elab.async false
set_option linter.all false
set_option maxRecDepth 100000
set_option maxHeartbeats 4000000
namespace L2
open PySem PySem.Spec PyProof.Rows
section
variable {X : Cx} {pins : List (Addr × Obj)} {σ : St} {H : Hp} {s : Shared}
theorem Inv.adoptN {a : Addr} {o : HO} (I : Inv X pins σ H s) (hn : H a = none) (h0 : ∀ u, X.s₀.heap.get? a = some u → a ∉ X.ex → False) (hL : a ≠ X.env.locals) (hC : ∀ x c, X.env.cells.lookup x = some c → c ≠ a) (hp : ∀ p ∈ X.pn ++ pins, p.1 ≠ a) (ok : ObjOk X.prog X.w (upd H a o) s.heap a o) : Inv X pins σ (upd H a o) s := by
  refine ⟨I.ok, I.os, I.bare, ⟨I.base.keep, I.base.slot, fun b u e n hx => ?_, I.base.there, fun b xs q => ?_, fun b u xs q => ?_, fun b ps q => ?_⟩, I.loc, I.cell, ?_, fun x c e => ?_, fun p hp' => ?_, fun b u e => ?_, I.len⟩
  · rw [upd_ne (fun z => by rw [z] at e hx; exact h0 u e hx)]; exact I.base.free b u e n hx
  · have z := I.base.tups b xs q
    rw [upd_ne (ne_of_none z hn)]; exact z
  · have z := I.base.frzs b u xs q
    rw [upd_ne (ne_of_none z hn)]; exact z
  · obtain ⟨more, z⟩ := I.base.tbls b ps q
    exact ⟨more, by rw [upd_ne (ne_of_none z hn)]; exact z⟩
  · rw [upd_ne (Ne.symm hL)]; exact I.free
  · rw [upd_ne (hC x c e)]; exact I.freeC x c e
  · obtain ⟨e, n, ne, nf, d⟩ := I.pin p hp'
    exact ⟨e, by rw [upd_ne (hp p hp')]; exact n, ne, nf, d⟩
  · by_cases hb : b = a
    · subst hb; rw [upd_same] at e; cases e; exact ok
    · rw [upd_ne hb] at e
      exact (I.hok b u e).stay (fun c v _ q => q) (fun c q => by rw [upd_ne (ne_of_none q hn)]; exact q) fun c xs q => by rw [upd_ne (ne_of_none q hn)]; exact q
theorem Inv.later {a : Addr} {o : HO} {H1 : Hp} {s1 : Shared} (I : Inv X pins σ H s) (hB : s.heap.get? a = none) (J : Inv X pins σ H1 s1) (hn : H1 a = none) (ok : ObjOk X.prog X.w (upd H1 a o) s1.heap a o) : Inv X pins σ (upd H1 a o) s1 := by
  have nl : ∀ b u, s.heap.get? b = some u → b ≠ a := fun b u e z => by rw [z, hB] at e; cases e
  refine J.adoptN hn (fun u e hx => ?_) ?_ (fun x c e => ?_) (fun p hp => nl _ _ (I.pin p hp).1) ok
  · obtain ⟨o', e'⟩ := I.base.there a u e hx
    exact nl a o' e' rfl
  · obtain ⟨m, ⟨oL, es, ep, eL, _⟩, _⟩ := id I.loc
    exact Ne.symm (nl _ _ eL)
  · obtain ⟨v, oc, ec, _⟩ := I.cell x c e
    exact nl _ _ ec
theorem Inv.none_at {a : Addr} (I : Inv X pins σ H s) (hB : s.heap.get? a = none) : H a = none := by
  cases z : H a with
  | none => rfl
  | some u =>
    obtain ⟨v, hv⟩ := (I.hok a u z).there
    rw [hB] at hv; cases hv
theorem Inv.newAt {a : Addr} {o : HO} {h' : Heap} {t' : Nat} (I : Inv X pins σ H s) (k : ∀ b u, s.heap.get? b = some u → h'.get? b = some u) (hB : s.heap.get? a = none) (new : ObjOk X.prog X.w (upd H a o) h' a o) :
    Inv X pins σ (upd H a o) { s with heap := h', toks := t' } := I.later hB (I.kept (t' := t') k) (I.none_at hB) new
def track (H : Hp) (l : List (Addr × List V)) : Hp := l.foldr (fun p G => upd G p.1 (.tup p.2)) H
theorem track_none {a : Addr} : ∀ {l : List (Addr × List V)}, H a = none → a ∉ l.map (·.1) → track H l a = none
  | [], h, _ => h
  | p :: l, h, n => by
    rw [List.map_cons, List.mem_cons, not_or] at n
    show upd (track H l) p.1 (.tup p.2) a = none
    rw [upd_ne n.1]
    exact track_none h n.2
theorem track_at : ∀ {l : List (Addr × List V)}, (l.map (·.1)).Nodup → ∀ p ∈ l, track H l p.1 = some (.tup p.2)
  | q :: l, nd, p, hp => by
    rw [List.map_cons, List.nodup_cons] at nd
    show upd (track H l) q.1 (.tup q.2) p.1 = _
    rcases List.mem_cons.mp hp with rfl | hp
    · exact upd_same
    · rw [upd_ne fun z => nd.1 (by rw [← z]; exact List.mem_map.mpr ⟨p, hp, rfl⟩)]
      exact track_at nd.2 p hp
theorem Inv.newAll {h' : Heap} {t' : Nat} (I : Inv X pins σ H s) (k : ∀ b u, s.heap.get? b = some u → h'.get? b = some u) : ∀ (l : List (Addr × List V)), (∀ p ∈ l, s.heap.get? p.1 = none) → (∀ p ∈ l, ∀ G, ObjOk X.prog X.w G h' p.1 (.tup p.2)) → (l.map (·.1)).Nodup →
    Inv X pins σ (track H l) { s with heap := h', toks := t' }
  | [], _, _, _ => I.kept (t' := t') k
  | p :: l, hd, ho, nd => by
    rw [List.map_cons, List.nodup_cons] at nd
    have J := Inv.newAll (t' := t') I k l (fun q hq => hd q (.tail _ hq)) (fun q hq => ho q (.tail _ hq)) nd.2
    exact I.later (hd p (.head _)) J (track_none (I.none_at (hd p (.head _))) nd.1) (ho p (.head _) _)
def PairsV (K : PySem.W.Frag) (H : Hp) : List V → List (Key × V) → Prop := Paired fun x kv => ∃ p, x = .ref p ∧ SqT K H p [kV kv.1, kv.2]
theorem pairs_raw (I : Inv X pins σ H s) {ps : List V} {kvs : List (Key × V)} (pr : PairsV X.K H ps kvs) : ∀ {its : List Value}, Vals ps its →
    ∃ rs : List (Key × Value), KV kvs rs ∧ rs.length = its.length ∧ ∀ (j : Nat) u kv, its[j]? = some u → rs[j]? = some kv → Dt.PairAt (mixKind X.prog X.w) s.heap u kv := by
  unfold PairsV at pr
  induction pr with
  | nil =>
    intro its r
    cases r
    exact ⟨[], .nil, rfl, fun j u kv h => by simp at h⟩
  | @cons x kv ps kvs h t ih =>
    intro its r
    cases r with
    | @cons _ u _ its r q =>
      obtain ⟨rs, h1, h2, h3⟩ := ih q
      obtain ⟨p, rfl, hq⟩ := h
      cases (show u = Value.ref p from r)
      obtain ⟨its2, r2, pl, _⟩ := I.tuple hq
      obtain ⟨uk, uv, rfl, rk, rv⟩ := vals2 r2
      refine ⟨(kv.1, uv) :: rs, .cons ⟨rfl, rv⟩ h1, by rw [List.length_cons, List.length_cons, h2], fun j u' kv' e1 e2 => ?_⟩
      cases j with
      | zero =>
        cases (show some (Value.ref p) = some u' from e1)
        cases (show some (kv.1, uv) = some kv' from e2)
        exact ⟨p, uk, rfl, pl, kV_is rk⟩
      | succ j => exact h3 j u' kv' (by simpa using e1) (by simpa using e2)
end
theorem call_dictT {X : Cx} {K : PySem.W.Frag} (hK : X.K = K) (hc : X.calm = true) : CallR X (.type "dict") (fun xs H Q => ∃ t ps kvs, xs = [.ref t] ∧ H t = some (.tup ps) ∧ PairsV K H ps kvs ∧ ∀ p, H p = none → Q (.ref p) (upd H p (.dK (mergeK [] kvs)))) := by
  subst hK
  intro pins s σ H xs us Q I r h
  obtain ⟨t, ps, kvs, rfl, ht, pr, q⟩ := h
  obtain ⟨u, rfl, rx⟩ := r.one
  cases (show u = Value.ref t from rx)
  obtain ⟨hz, its, rv, o, hx, ⟨hcl, hdn⟩, n, hdat⟩ := (show ObjOk X.prog X.w H s.heap t (.tup ps) from I.hok t _ ht)
  obtain ⟨rs, h1, h2, h3⟩ := pairs_raw I pr rv
  have hl : rs.length ≤ sizeLine := by rw [h2, ← rv.length]; exact hz
  refine Dt.call_tuple (knd := mixKind X.prog X.w) (kvs := rs) (I.ok.hd hc) hx hcl hdat hdn (by simp [h2]) (fun j u kv e1 e2 => h3 j u kv (by simpa using e1) e2) hl fun h' tk k d => ?_
  have hf : H s.heap.objs.size = none := I.hok.fresh (Nat.le_refl _)
  have lk : kvs.length = rs.length := h1.length
  refine ⟨.ref s.heap.objs.size, _, I.laid (t' := tk) k (Nat.le_refl _) (dk_new ?_ (beq_eq_false_iff_ne.mpr (Ne.symm (Nat.ne_of_lt I.big))) (h1.merge .nil) d), rfl, q _ hf⟩
  have := length_mergeK kvs []
  rw [List.length_nil] at this
  omega
theorem ints_of : ∀ {vs : List Value} {ns : List Int}, vs.length = ns.length → (∀ (j : Nat) v i, vs[j]? = some v → ns[j]? = some i → ∃ t, v = .int i t) → IntsAre vs ns
  | [], [], _, _ => .nil
  | v :: vs, n :: ns, hl, h => by
    obtain ⟨t, rfl⟩ := h 0 v n rfl rfl
    exact .cons n t (ints_of (by simpa using hl) fun j v i e1 e2 => h (j + 1) v i (by simpa using e1) (by simpa using e2))
theorem vals_of_ints : ∀ {vs : List Value} {ns : List Int}, IntsAre vs ns → Vals (ns.map V.int) vs
  | _, _, .nil => .nil
  | _, _, .cons n t r => .cons ⟨t, rfl⟩ (vals_of_ints r)
theorem call_sortedK {X : Cx} (hc : X.calm = true) : CallR X (.builtin "sorted") (fun xs H Q => ∃ d kvs ns, xs = [.ref d] ∧ Rd H d (.dK kvs) ∧ kvs.map (·.1) = ns.map Sum.inl ∧ kvs.length < 64 ∧
    ∀ l, H l = none → Q (.ref l) (upd H l (.lst ((PySem.W.sortI ns).map V.int)))) := by
  intro pins s σ H xs us Q I r h
  obtain ⟨d, kvs, ns, rfl, hd, hk, h64, q⟩ := h
  obtain ⟨u, rfl, rx⟩ := r.one
  cases (show u = Value.ref d from rx)
  obtain ⟨z, lo, vs, rel, dd⟩ := dk_rd I.hok hd
  have lkn : kvs.length = ns.length := by have := congrArg List.length hk; simpa using this
  refine Dt.sorted_dict (knd := mixKind X.prog X.w) (ns := ns) (I.ok.hd hc) lo dd (by rw [← rel.length]; exact h64) (fun us hl hu => ints_of (by rw [hl, ← rel.length, lkn]) fun j v i e1 e2 => ?_) fun B h' tk out n ns' k hB e a1 a2 a3 => ?_
  · obtain ⟨k, x, ex, hk1⟩ := hu j v e1
    have ek : (vs.map (·.1))[j]? = some (Sum.inl i) := by rw [← rel.keys, hk, List.getElem?_map, e2]; rfl
    rw [List.getElem?_map, ex] at ek
    have e3 : k = Sum.inl i := by simpa using ek
    subst e3
    exact Value.isInt_shape hk1
  · have es := PySem.W.eq_sortI a2 a3
    subst es
    have ln : (PySem.W.sortI ns).length = ns.length := (PySem.W.sortI_perm ns).length_eq
    refine ⟨.ref B, _, I.newAt (t' := tk) k hB (show ObjOk X.prog X.w _ _ _ (.lst ((PySem.W.sortI ns).map V.int)) from ⟨?_, out.toList, n, vals_of_ints a1, by rw [e]⟩), rfl, q _ (I.none_at hB)⟩
    rw [List.length_map, ln, ← lkn, sizeLine_eq]
    omega
end L2


set_option Elab.async false
set_option linter.all false
set_option maxRecDepth 100000
set_option maxHeartbeats 4000000
namespace Srt
open PySem PySem.W PyProof.Rows
def Good {α : Type} (f : Nat → Nat → Bool) (n : Nat) : KasT α → (α → Prop) → Prop
  | .ret a, Q => Q a
  | .ask i j k, Q => i < n ∧ j < n ∧ i ≠ j ∧ Good f n (k (f i j)) Q
theorem Good.bind {α β : Type} {f : Nat → Nat → Bool} {n : Nat} {g : α → KasT β} {Q : β → Prop} : ∀ {t : KasT α}, Good f n t (fun a => Good f n (g a) Q) → Good f n (t.bind g) Q
  | .ret _, h => h
  | .ask _ _ _, h => ⟨h.1, h.2.1, h.2.2.1, Good.bind h.2.2.2⟩
theorem Good.mono {α : Type} {f : Nat → Nat → Bool} {n : Nat} {Q Q' : α → Prop} (hq : ∀ a, Q a → Q' a) : ∀ {t : KasT α}, Good f n t Q → Good f n t Q'
  | .ret _, h => hq _ h
  | .ask _ _ _, h => ⟨h.1, h.2.1, h.2.2.1, Good.mono hq h.2.2.2⟩
theorem wp_of {α : Type} {f : Nat → Nat → Bool} {n : Nat} {cmp : Nat → Nat → (Bool → Shared → Prop) → Shared → Prop} {J : Shared → Prop} {P : α → Prop} {Q : α → Shared → Prop}
    (hc : ∀ i j C s, i < n → j < n → i ≠ j → J s → (∀ s', J s' → C (f i j) s') → cmp i j C s) (hq : ∀ a s', P a → J s' → Q a s') : ∀ (t : KasT α) (s : Shared), Good f n t P → J s → t.kasWp cmp Q s
  | .ret _, s, h, hs => hq _ s h hs
  | .ask i j k, s, h, hs => hc i j _ s h.1 h.2.1 h.2.2.1 hs fun s' hs' => wp_of hc hq (k (f i j)) s' h.2.2.2 hs'
section
variable {key : Nat → Int} {n : Nat}
abbrev Ok (n : Nat) (p : Array Nat) : Prop := p.toList.Perm (List.range n)
def kA (key : Nat → Int) (p : Array Nat) (i : Nat) : Int := key (p.getD i 0)
abbrev ltK (key : Nat → Int) : Nat → Nat → Bool := fun i j => decide (key i < key j)
def Up (key : Nat → Int) (p : Array Nat) (b : Nat) : Prop := ∀ i j, i < j → j < b → kA key p i < kA key p j
def Down (key : Nat → Int) (p : Array Nat) (b : Nat) : Prop := ∀ i j, i < j → j < b → kA key p j < kA key p i
theorem Ok.size {p : Array Nat} (h : Ok n p) : p.size = n := by
  have := h.length_eq
  simpa using this
theorem Ok.at {p : Array Nat} (h : Ok n p) {i : Nat} (hi : i < n) : p.getD i 0 < n := by
  have hs := h.size
  have e : p.getD i 0 = p.toList[i]'(by simpa [hs] using hi) := by simp [Array.getD, hs, hi]
  rw [e]
  exact List.mem_range.mp (h.mem_iff.mp (List.getElem_mem _))
theorem Ok.inj {p : Array Nat} (h : Ok n p) {i j : Nat} (hi : i < n) (hj : j < n) (e : p.getD i 0 = p.getD j 0) : i = j := by
  have hs := h.size
  have nd : p.toList.Nodup := h.nodup_iff.mpr List.nodup_range
  have e1 : p.getD i 0 = p.toList[i]'(by simpa [hs] using hi) := by simp [Array.getD, hs, hi]
  have e2 : p.getD j 0 = p.toList[j]'(by simpa [hs] using hj) := by simp [Array.getD, hs, hj]
  rw [e1, e2] at e
  exact (List.getElem_inj nd).mp e
theorem Ok.ne (hk : ∀ i j, i < n → j < n → key i = key j → i = j) {p : Array Nat} (h : Ok n p) {i j : Nat} (hi : i < n) (hj : j < n) (hne : i ≠ j) : kA key p i ≠ kA key p j := fun e =>
  hne (h.inj hi hj (hk _ _ (h.at hi) (h.at hj) e))
theorem Ok.apart {p : Array Nat} (h : Ok n p) {i j : Nat} (hi : i < n) (hj : j < n) (hne : i ≠ j) : p.getD i 0 ≠ p.getD j 0 := fun e => hne (h.inj hi hj e)
theorem getD_of {xs ys : Array Nat} {i j : Nat} (h : xs[i]? = ys[j]?) : xs.getD i 0 = ys.getD j 0 := by
  rw [Array.getD_eq_getD_getElem?, Array.getD_eq_getD_getElem?, h]
variable (hk : ∀ i j, i < n → j < n → key i = key j → i = j)
include hk
theorem asc_ {p : Array Nat} (ok : Ok n p) : ∀ (f m : Nat), 1 ≤ m → m + f = n → Up key p m → Good (ltK key) n (kas_asc p f m) (fun r => m ≤ r ∧ r ≤ n ∧ Up key p r ∧ (r = n ∨ (r < n ∧ kA key p r < kA key p (r - 1))))
  | 0, m, _, e, u => ⟨Nat.le_refl _, by omega, u, .inl (by omega)⟩
  | f + 1, m, h1, e, u => by
    have hm : m < n := by omega
    refine ⟨ok.at hm, ok.at (by omega), ok.apart hm (by omega) (by omega), ?_⟩
    by_cases c : kA key p m < kA key p (m - 1)
    · have c' : ltK key (p.getD m 0) (p.getD (m - 1) 0) = true := decide_eq_true c
      rw [c']
      dsimp only
      rw [if_pos rfl]
      exact ⟨Nat.le_refl _, by omega, u, .inr ⟨hm, c⟩⟩
    · have c' : ltK key (p.getD m 0) (p.getD (m - 1) 0) = false := decide_eq_false c
      rw [c']
      dsimp only
      rw [if_neg (by decide)]
      have ne := ok.ne hk hm (show m - 1 < n by omega) (by omega)
      have st : kA key p (m - 1) < kA key p m := by omega
      refine Good.mono (fun r hr => ⟨by omega, hr.2⟩) (asc_ ok f (m + 1) (by omega) (by omega) fun i j hij hj => ?_)
      by_cases hjm : j < m
      · exact u i j hij hjm
      · have : j = m := by omega
        subst this
        by_cases hi : i = j - 1
        · rw [hi]; exact st
        · exact Int.lt_trans (u i (j - 1) (by omega) (by omega)) st
theorem desc_ {p : Array Nat} (ok : Ok n p) : ∀ (f m : Nat), 1 ≤ m → m + f = n → Down key p m → Good (ltK key) n (kas_desc f p m 0) (fun r => r.1 = p ∧ r.2.2 = 0 ∧ m ≤ r.2.1 ∧ r.2.1 ≤ n ∧ Down key p r.2.1)
  | 0, m, _, e, u => ⟨rfl, rfl, Nat.le_refl _, by show m ≤ n; omega, u⟩
  | f + 1, m, h1, e, u => by
    have hm : m < n := by omega
    refine ⟨ok.at hm, ok.at (by omega), ok.apart hm (by omega) (by omega), ?_⟩
    by_cases c : kA key p m < kA key p (m - 1)
    · have c' : ltK key (p.getD m 0) (p.getD (m - 1) 0) = true := decide_eq_true c
      rw [c']
      dsimp only
      rw [if_pos rfl, if_neg (Nat.lt_irrefl 0)]
      refine Good.mono (fun r hr => ⟨hr.1, hr.2.1, by have := hr.2.2.1; omega, hr.2.2.2⟩) (desc_ ok f (m + 1) (by omega) (by omega) fun i j hij hj => ?_)
      by_cases hjm : j < m
      · exact u i j hij hjm
      · have : j = m := by omega
        subst this
        by_cases hi : i = j - 1
        · rw [hi]; exact c
        · exact Int.lt_trans c (u i (j - 1) (by omega) (by omega))
    · have c' : ltK key (p.getD m 0) (p.getD (m - 1) 0) = false := decide_eq_false c
      rw [c']
      dsimp only
      rw [if_neg (by decide)]
      have ne := ok.ne hk hm (show m - 1 < n by omega) (by omega)
      have c2 : ltK key (p.getD (m - 1) 0) (p.getD m 0) = true := decide_eq_true (show kA key p (m - 1) < kA key p m by omega)
      refine ⟨ok.at (by omega), ok.at hm, ok.apart (by omega) hm (by omega), ?_⟩
      rw [c2]
      dsimp only
      rw [if_pos rfl]
      exact ⟨rfl, rfl, Nat.le_refl _, by show m ≤ n; omega, u⟩
omit hk in
theorem rev_ok {p : Array Nat} (ok : Ok n p) (i j : Nat) : Ok n (kas_rev p i j) := (mirror_perm p i j ((j - i) / 2)).toList.trans ok
omit hk in
theorem rev_up {p : Array Nat} (ok : Ok n p) {m : Nat} (hm : m ≤ n) (d : Down key p m) : Up key (kas_rev p 0 m) m := fun i j hij hj => by
  have hs := ok.size
  have a1 : (kas_rev p 0 m).getD i 0 = p.getD (0 + m - 1 - i) 0 := getD_of (by unfold kas_rev; rw [getElem?_mirror_all (by omega), if_pos ⟨by omega, by omega⟩])
  have a2 : (kas_rev p 0 m).getD j 0 = p.getD (0 + m - 1 - j) 0 := getD_of (by unfold kas_rev; rw [getElem?_mirror_all (by omega), if_pos ⟨by omega, by omega⟩])
  unfold kA
  rw [a1, a2]
  exact d (0 + m - 1 - j) (0 + m - 1 - i) (by omega) (by omega)
theorem count_ {p : Array Nat} (ok : Ok n p) (h1 : 1 ≤ n) : Good (ltK key) n (kas_count n p) (fun r => 1 ≤ r.1 ∧ r.1 ≤ n ∧ Ok n r.2 ∧ Up key r.2 r.1) := by
  unfold kas_count
  refine Good.bind (Good.mono (fun m hm => ?_) (asc_ hk ok (n - 1) 1 (Nat.le_refl _) (by omega) fun i j hij hj => by omega))
  obtain ⟨m1, m2, u, st⟩ := hm
  by_cases c : m = n
  · rw [if_pos (by simpa using c)]
    exact ⟨m1, m2, ok, u⟩
  · rw [if_neg (by simpa using c)]
    by_cases c2 : m > 1
    · rw [if_pos c2]
      refine ⟨ok.at (by omega), ok.at (by omega), ok.apart (by omega) (by omega) (by omega), ?_⟩
      have : ltK key (p.getD 0 0) (p.getD (m - 1) 0) = true := decide_eq_true (u 0 (m - 1) (by omega) (by omega))
      rw [this]
      dsimp only
      rw [if_pos rfl]
      exact ⟨m1, m2, ok, u⟩
    · rw [if_neg c2]
      have e1 : m = 1 := by omega
      subst e1
      obtain ⟨_, st⟩ := st.resolve_left c
      unfold kas_descPart
      refine Good.bind (Good.mono (fun r hr => ?_) (desc_ hk ok (n - (1 + 1)) (1 + 1) (by omega) (by omega) fun i j hij hj => ?_))
      · obtain ⟨r1, r2, r3, r4, d⟩ := hr
        rw [r2, if_neg (Nat.lt_irrefl 0), r1]
        unfold kas_tail3
        refine Good.bind (Good.mono (fun z hz => ?_) (asc_ hk (rev_ok ok 0 r.2.1) (n - r.2.1) r.2.1 (by omega) (by omega) (rev_up ok r4 d)))
        exact ⟨by have := hz.1; show 1 ≤ z; omega, hz.2.1, rev_ok ok 0 r.2.1, hz.2.2.1⟩
      · have hj1 : j = 1 := by omega
        have hi0 : i = 0 := by omega
        subst hj1 hi0
        exact st
theorem place_ {p : Array Nat} (ok : Ok n p) {k : Nat} (hkn : k < n) (u : Up key p k) : ∀ (f l r : Nat), r - l ≤ f → l ≤ r → r ≤ k → (∀ i, i < l → kA key p i < kA key p k) → (∀ i, r ≤ i → i < k → kA key p k < kA key p i) →
    Good (ltK key) n (kas_place p k f l r) (fun q => q ≤ k ∧ (∀ i, i < q → kA key p i < kA key p k) ∧ ∀ i, q ≤ i → i < k → kA key p k < kA key p i)
  | 0, l, r, hf, hl, hr, a, b => by
    have : l = r := by omega
    subst this
    exact ⟨hr, a, b⟩
  | f + 1, l, r, hf, hl, hr, a, b => by
    unfold kas_place
    by_cases c : l ≥ r
    · rw [if_pos c]
      have : l = r := by omega
      subst this
      exact ⟨hr, a, b⟩
    · rw [if_neg c]
      have hmid : (l + r) / 2 < r ∧ l ≤ (l + r) / 2 := by omega
      refine ⟨ok.at hkn, ok.at (by omega), ok.apart hkn (by omega) (by omega), ?_⟩
      by_cases q : kA key p k < kA key p ((l + r) / 2)
      · have q' : ltK key (p.getD k 0) (p.getD ((l + r) / 2) 0) = true := decide_eq_true q
        rw [q']
        dsimp only
        rw [if_pos rfl]
        refine place_ ok hkn u f l ((l + r) / 2) (by omega) hmid.2 (by omega) a fun i h1 h2 => ?_
        by_cases e : i = (l + r) / 2
        · rw [e]; exact q
        · exact Int.lt_trans q (u _ i (by omega) h2)
      · have q' : ltK key (p.getD k 0) (p.getD ((l + r) / 2) 0) = false := decide_eq_false q
        rw [q']
        dsimp only
        rw [if_neg (by decide)]
        have ne := ok.ne hk hkn (show (l + r) / 2 < n by omega) (by omega)
        have st : kA key p ((l + r) / 2) < kA key p k := by omega
        refine place_ ok hkn u f ((l + r) / 2 + 1) r (by omega) (by omega) hr (fun i hi => ?_) b
        by_cases e : i = (l + r) / 2
        · rw [e]; exact st
        · exact Int.lt_trans (u i _ (show i < (l + r) / 2 by omega) (by omega)) st
omit hk in
theorem bub_up {p : Array Nat} (ok : Ok n p) {k q : Nat} (hkn : k < n) (hq : q ≤ k) (u : Up key p k) (a : ∀ i, i < q → kA key p i < kA key p k) (b : ∀ i, q ≤ i → i < k → kA key p k < kA key p i) : Up key (bubble p k (k - q)) (k + 1) := by
  have hs := ok.size
  have e : ∀ j, (bubble p k (k - q)).getD j 0 = if j = q then p.getD k 0 else if q < j ∧ j ≤ k then p.getD (j - 1) 0 else p.getD j 0 := fun j => by
    have z := getElem?_bubble (xs := p) (src := k) (by omega) (k - q) (by omega) j
    have eq : k - (k - q) = q := by omega
    rw [eq] at z
    by_cases c1 : j = q
    · rw [if_pos c1] at z ⊢; exact getD_of z
    · rw [if_neg c1] at z ⊢
      by_cases c2 : q < j ∧ j ≤ k
      · rw [if_pos c2] at z ⊢; exact getD_of z
      · rw [if_neg c2] at z ⊢; exact getD_of z
  intro i j hij hj
  unfold kA
  rw [e i, e j]
  by_cases c1 : i = q
  · rw [if_pos c1, if_neg (by omega), if_pos ⟨by omega, by omega⟩]
    exact b (j - 1) (by omega) (by omega)
  · rw [if_neg c1]
    by_cases c2 : q < i ∧ i ≤ k
    · rw [if_pos c2, if_neg (by omega), if_pos ⟨by omega, by omega⟩]
      exact u (i - 1) (j - 1) (by omega) (by omega)
    · rw [if_neg c2]
      by_cases c3 : j = q
      · rw [if_pos c3]
        exact a i (by omega)
      · rw [if_neg c3]
        by_cases c4 : q < j ∧ j ≤ k
        · rw [if_pos c4]
          by_cases c5 : i = j - 1
          · omega
          · exact u i (j - 1) (by omega) (by omega)
        · rw [if_neg c4]
          exact u i j hij (by omega)
theorem bin_ : ∀ (f : Nat) (p : Array Nat) (k : Nat), Ok n p → 1 ≤ k → k + f = n → Up key p k → Good (ltK key) n (kas_bin f p k) (fun r => Ok n r ∧ Up key r n)
  | 0, p, k, ok, _, e, u => ⟨ok, by have : k = n := by omega
                                    subst this; exact u⟩
  | f + 1, p, k, ok, h1, e, u => by
    unfold kas_bin
    refine Good.bind (Good.mono (fun q hq => ?_) (place_ hk ok (show k < n by omega) u k 0 k (by omega) (Nat.zero_le _) (Nat.le_refl _) (fun i hi => by omega) fun i h1 h2 => by omega))
    exact bin_ f _ (k + 1) ((bubble_perm p k (k - q)).toList.trans ok) (by omega) (by omega) (bub_up ok (by omega) hq.1 u hq.2.1 hq.2.2)
theorem sort_ (h1 : 1 ≤ n) : Good (ltK key) n (kas_sort n) (fun r => Ok n r ∧ Up key r n) := by
  unfold kas_sort
  have ok0 : Ok n (List.toArray (List.range n)) := by simp [Ok]
  refine Good.bind (Good.mono (fun r hr => ?_) (count_ hk ok0 h1))
  obtain ⟨r1, r2, ok, u⟩ := hr
  by_cases c : r.1 < n
  · rw [if_pos c]
    have e : max r.1 1 = r.1 := by omega
    rw [e]
    exact bin_ hk _ _ _ ok r1 (by omega) u
  · rw [if_neg c]
    have : r.1 = n := by omega
    exact ⟨ok, this ▸ u⟩
end
end Srt


set_option Elab.async false
set_option linter.all false
set_option maxRecDepth 100000
set_option maxHeartbeats 4000000
namespace Dt
open PySem PySem.W PySem.Spec PyProof.Rows
section
variable {prog : Program} {w : World} {A : Around} {E : Value → Shared → Prop} {s : Shared}
def Row (h : Heap) (v : Value) (k : Int) : Prop := ∃ p o u t x, v = .ref p ∧ h.get? p = some o ∧ o.cls = .type "tuple" ∧ o.data = .seq #[.int k t, u] x
theorem firsts {h : Heap} : ∀ (vs : List Value) (f : Nat → Int), (∀ (j : Nat) v, vs[j]? = some v → Row h v (f j)) → ∃ fs, KatTups h vs fs ∧ fs.length = vs.length ∧ ∀ v ∈ fs, ∃ i t, v = .int i t
  | [], _, _ => ⟨[], .nil, rfl, fun v hv => nomatch hv⟩
  | v :: vs, f, H => by
    obtain ⟨fs, h1, h2, h3⟩ := firsts vs (fun j => f (j + 1)) fun j u e => H (j + 1) u (by simpa using e)
    obtain ⟨p, o, u, t, x, rfl, e, c, d⟩ := H 0 v rfl
    exact ⟨.int (f 0) t :: fs, .cons e c d rfl h1, by rw [List.length_cons, List.length_cons, h2], fun z hz => (List.mem_cons.mp hz).elim (fun q => ⟨_, _, q⟩) (h3 z)⟩
theorem zip_self (vs : List Value) : (vs.toArray.zip vs.toArray).map (·.2) = List.toArray ((List.toArray (List.range vs.length)).toList.map fun i => vs.getD i Value.none) := by
  apply Array.ext
  · simp
  · intro i h1 h2
    have hi : i < vs.length := by simpa using h1
    simp [hi]
theorem sort_rows {a : Addr} {vs : List Value} {n : Nat} {key : Nat → Int} {P : PySem.Fin → Shared → Prop} (ho : s.heap.get? a = some (seqObj "list" vs.toArray n))
    (hv : ∀ (j : Nat) v, vs[j]? = some v → Row s.heap v (key j)) (hinj : ∀ i j, i < vs.length → j < vs.length → key i = key j → i = j) (h64 : vs.length < 64)
    (h : ∀ p : Array Nat, Srt.Ok vs.length p → Srt.Up key p vs.length → P (.done (.ret .none)) { s with heap := sortedHeap s.heap a vs (List.toArray (p.toList.map fun i => vs.getD i Value.none)) }) :
    wpAny (model prog w) A (Builtin.«list.sort» ⟨[.ref a], []⟩) P E s := by
  rw [list_sort_plain]
  have ha : a < s.heap.objs.size := Heap.lt_size ho
  refine wpAny_bind (listItems_at ho rfl ?_)
  refine wpAny_bind (listUpdate_at ho rfl ?_ (by rw [List.size_toArray, sizeLine_eq]; omega) (Nat.zero_le _))
  obtain ⟨e1, ho1⟩ : ∃ e1, (s.heap.update a (Obj.mapSeq fun _ => #[])).get? a = some (seqObj "list" #[] e1) := ⟨_, get?_update_seq ho (fun _ => #[])⟩
  refine wpAny_bind (seqEpoch_at ho1 rfl ?_)
  refine wpAny_bind (wpAny_newTuple ?_ (by show vs.length ≤ _; rw [sizeLine_eq]; omega))
  refine wpAny_bind (wpAny_newList ?_ (Nat.zero_le _))
  refine wpAny_holding ?_
  have ho6 : (((s.heap.update a (Obj.mapSeq fun _ => #[])).push (seqObj "tuple" vs.toArray 0)).push (seqObj "list" #[] 0)).get? a = some (seqObj "list" #[] e1) := Heap.get?_push_of_some _ (Heap.get?_push_of_some _ ho1)
  have kp : ∀ b o, b ≠ a → s.heap.get? b = some o → (((s.heap.update a (Obj.mapSeq fun _ => #[])).push (seqObj "tuple" vs.toArray 0)).push (seqObj "list" #[] 0)).get? b = some o := fun b o hb e =>
    Heap.get?_push_of_some _ (Heap.get?_push_of_some _ ((Heap.get?_update_ne _ _ _ _ hb).trans e))
  show wpAny (model prog w) A _ P E { s with heap := ((s.heap.update a (Obj.mapSeq fun _ => #[])).push (seqObj "tuple" vs.toArray 0)).push (seqObj "list" #[] 0) }
  dsimp only
  by_cases h2 : vs.toArray.size < 2
  · rw [if_pos h2, if_pos h2]
    refine wpAny_bind (wpAny_pure ?_)
    rw [StateT.run_pure]
    refine wpAny_bind (wpAny_pure ?_)
    dsimp only
    refine wpAny_bind (seqEpoch_at ho6 rfl ?_)
    refine wpAny_bind (listUpdate_at ho6 rfl ?_ (hsz2 := by rw [Array.size_map]; show (pairsOf vs).size ≤ _; rw [pairsOf_size, sizeLine_eq]; omega))
    simp only [bne_self_eq_false, Bool.false_eq_true, if_false]
    have q := h (List.toArray (List.range vs.length)) (by simp [Srt.Ok]) (fun i j hij hj => by rw [List.size_toArray] at h2; omega)
    rw [← zip_self] at q
    exact wpAny_pure q
  · rw [if_neg h2, if_neg h2]
    rw [List.size_toArray] at h2
    have rows : ∀ (j : Nat) v, vs[j]? = some v → Row (((s.heap.update a (Obj.mapSeq fun _ => #[])).push (seqObj "tuple" vs.toArray 0)).push (seqObj "list" #[] 0)) v (key j) := fun j v e => by
      obtain ⟨p, o, u, t, x, rfl, e, c, d⟩ := hv j v e
      refine ⟨p, o, u, t, x, rfl, kp p o (fun z => ?_) e, c, d⟩
      rw [z, ho] at e
      cases e
      exact absurd (Value.type.inj c) (by decide)
    obtain ⟨fs, t, hfl, hfi⟩ := firsts vs key rows
    refine wpAny_bind (kat_kind (T := .type "int") t (by omega) (fun v hv => ?_) rfl ?_)
    · obtain ⟨i, tk, rfl⟩ := hfi v hv
      exact Looks.now
    have hb : (Value.type "int" != Value.type "tuple") = true := by decide +kernel
    rw [hb]
    have good := Srt.sort_ hinj (show 1 ≤ vs.length by omega)
    have hk : (kas_sort vs.length).kasWp (kas_ask prog w A (tuples' true) vs) (fun p s' => s' = { s with heap := ((s.heap.update a (Obj.mapSeq fun _ => #[])).push (seqObj "tuple" vs.toArray 0)).push (seqObj "list" #[] 0) } ∧ Srt.Ok vs.length p ∧ Srt.Up key p vs.length)
        { s with heap := ((s.heap.update a (Obj.mapSeq fun _ => #[])).push (seqObj "tuple" vs.toArray 0)).push (seqObj "list" #[] 0) } := by
      refine Srt.wp_of (J := fun s' => s' = { s with heap := ((s.heap.update a (Obj.mapSeq fun _ => #[])).push (seqObj "tuple" vs.toArray 0)).push (seqObj "list" #[] 0) }) (P := fun p => Srt.Ok vs.length p ∧ Srt.Up key p vs.length) (fun i j C s' hi hj hne hs hC => ?_) (fun p s' hp hs => ⟨hs, hp⟩) _ _ good rfl
      subst hs
      obtain ⟨p, o, u, t, x, e0, e, c, d⟩ := rows i _ (List.getElem?_eq_getElem hi)
      obtain ⟨q, o', u', t', x', e0', e', c', d'⟩ := rows j _ (List.getElem?_eq_getElem hj)
      have g1 : vs.getD i Value.none = .ref p := by simp [hi, e0]
      have g2 : vs.getD j Value.none = .ref q := by simp [hj, e0']
      show wpAny (model prog w) A (keyLt' (tuples' true) (vs.getD i Value.none) (vs.getD j Value.none)) C _ _
      rw [g1, g2]
      refine kat_lt e d e' d' ?_
      show KatLex prog w A true _ C ((Value.int (key i) t, Value.int (key j) t') :: [(u, u')]) 0 _
      refine kat_cons (wpAny_eqBool_int ?_)
      rw [beq_eq_false_iff_ne.mpr fun z => hne (hinj i j hi hj z)]
      refine kat_no ?_
      show wpAny (model prog w) A (oneLt' true (.int (key i) t) (.int (key j) t')) C _ _
      exact oneLt_int (hC _ rfl)
    refine wpAny_bind (wpAny_mono (kat_run (Q := fun st' s' => ∃ p : Array Nat, p.size = vs.length ∧ arrOf st' = p.map (kas_item (vs.toArray.zip vs.toArray)) ∧ failedOf st' = none ∧ (s' = { s with heap := ((s.heap.update a (Obj.mapSeq fun _ => #[])).push (seqObj "tuple" vs.toArray 0)).push (seqObj "list" #[] 0) } ∧ Srt.Ok vs.length p ∧ Srt.Up key p vs.length))
      rfl (by omega) h64 (fun p' st' s' a1 a2 a3 a4 => ⟨p', a1, a2, a3, a4⟩) hk) ?_ fun _ _ e => e)
    rintro ⟨⟨⟩, st'⟩ s' ⟨p, hp, har, hf, rfl, ok, up⟩
    dsimp only
    have hout := kat_snds rfl har
    rw [hout]
    have hsz : (List.toArray (p.toList.map fun i => vs.getD i Value.none)).size = vs.length := by rw [List.size_toArray, List.length_map, Array.length_toList, hp]
    refine wpAny_bind (seqEpoch_at ho6 rfl ?_)
    refine wpAny_bind (listUpdate_at ho6 rfl ?_ (Nat.zero_le _) (Nat.le_trans (Nat.le_of_eq hsz) (by rw [sizeLine_eq]; omega)))
    rw [hf]
    simp only [bne_self_eq_false, Bool.false_eq_true, if_false]
    exact wpAny_pure (h p ok up)
end
section
variable {prog : Program} {w : World} {K : Type} [DecidableEq K] {knd : KeyKind prog w K} {A : Around} {E : Value → Shared → Prop} {s : Shared}
theorem sorted_items {v d : Addr} {kvs : List (K × Value)} {key : Nat → Int} {Q : Value → Shared → Prop} (hh : A.handled = none) (hv : s.heap.IsItemsView v d) (hd : s.heap.DictOf knd d kvs) (h64 : kvs.length < 64)
    (hK : ∀ (j : Nat) k x u, kvs[j]? = some (k, x) → knd.is k u = true → ∃ t, u = .int (key j) t) (hinj : ∀ i j, i < kvs.length → j < kvs.length → key i = key j → i = j)
    (h : ∀ (B : Addr) (h' : Heap) (tk : Nat) (as : List Addr) (p : Array Nat) (n : Nat), (∀ b o, s.heap.get? b = some o → h'.get? b = some o) → s.heap.get? B = none → as.length = kvs.length → (∀ a ∈ as, s.heap.get? a = none ∧ a ≠ B) → as.Nodup →
      (∀ (j : Nat) a, as[j]? = some a → ∃ k x u, kvs[j]? = some (k, x) ∧ knd.is k u = true ∧ h'.get? a = some { cls := .type "tuple", data := .seq #[u, x] }) →
      Srt.Ok kvs.length p → Srt.Up key p kvs.length → h'.get? B = some (seqObj "list" (List.toArray (p.toList.map fun i => (as.map Value.ref).getD i Value.none)) n) → Q (.ref B) { s with heap := h', toks := tk }) :
    wpAny (model prog w) A (call (.builtin "sorted") [.ref v]) Q E s := by
  obtain ⟨ep, hat⟩ := hd.dictAt
  refine Calls.call_function_entry kind_sorted plain_sorted entry_sorted (args_sorted1 _) ?_
  unfold Builtin.«sorted»
  refine wpAny_bind (m := checkCount "sorted" 1 1 _) (wpAny_pure ?_)
  refine wpAny_bind (kdx_collect (A := A.in1) (knd := knd) (kvs := kvs) (ep := ep) hh hv hat (by rw [sizeLine_eq]; omega) fun h' tk as hk hl hG => ?_)
  have hll : (as.map Value.ref).length = kvs.length := by rw [List.length_map, hl]
  refine wpAny_bind (wpAny_newList ?_ (by rw [hll, sizeLine_eq]; omega))
  have hoL : (h'.push { cls := .type "list", data := .seq (as.map Value.ref).toArray }).get? h'.objs.size = some (seqObj "list" (as.map Value.ref).toArray 0) := Heap.get?_push_size _ rfl
  have rows : ∀ (j : Nat) u, (as.map Value.ref)[j]? = some u → Row (h'.push { cls := .type "list", data := .seq (as.map Value.ref).toArray }) u (key j) := fun j u e => by
    rw [List.getElem?_map] at e
    obtain ⟨a, ea, rfl⟩ := Option.map_eq_some_iff.mp e
    obtain ⟨ku, k, x, e1, e2, e3⟩ := hG.pairs j a ea
    obtain ⟨t, rfl⟩ := hK j k x ku e1 e2
    exact ⟨a, _, x, t, 0, rfl, Heap.get?_push_of_some _ e3, rfl, rfl⟩
  refine wpAny_bind (wpAny_holding (wpAny_call_entry slot_list_sort ⟨_, hoL, rfl⟩ entry_list_sort (sort_rows hoL rows (by rw [hll]; exact hinj) (by omega) fun p ok up => ⟨_, rfl, ?_⟩) (args_list_sort _)))
  refine wpAny_pure ⟨_, rfl, ?_⟩
  rw [hll] at ok up
  obtain ⟨e, he⟩ := sortedHeap_at (out := List.toArray (p.toList.map fun i => (as.map Value.ref).getD i Value.none)) hoL
  have old : ∀ b o, h'.get? b = some o → (sortedHeap (h'.push { cls := .type "list", data := .seq (as.map Value.ref).toArray }) h'.objs.size (as.map Value.ref) (List.toArray (p.toList.map fun i => (as.map Value.ref).getD i Value.none))).get? b = some o := fun b o q => by
    have lt := Heap.lt_size q
    rw [sortedHeap_old (Nat.ne_of_lt lt) (by rw [size_push']; exact Nat.lt_succ_of_lt lt)]
    exact Heap.get?_push_of_some _ q
  refine h h'.objs.size _ tk as p e (fun b o q => old b o (hk b o q)) ?_ hl (fun a ha => ⟨?_, ?_⟩) ?_ (fun j a ea => ?_) ok up he
  · cases z : s.heap.get? h'.objs.size with
    | none => rfl
    | some o => exact absurd (Heap.lt_size (hk _ _ z)) (Nat.lt_irrefl _)
  · exact Heap.get?_none_of_le (Nat.le_of_lt (hG.above a ha))
  · exact Nat.ne_of_lt (hG.there ha)
  · exact hG.rise.imp Nat.ne_of_lt
  · obtain ⟨ku, k, x, e1, e2, e3⟩ := hG.pairs j a ea
    exact ⟨k, x, ku, e1, e2, old a _ e3⟩
end
end Dt
namespace L2
open PySem PySem.Spec PyProof.Rows
def IsItems (v d : Addr) : Heap → Prop := fun h => h.get? v = some { cls := .type "dict_items", data := .fields #[.ref d] }
theorem mt_items {X : Cx} : MtR X "dict.items" (fun x vs H Q => ∃ d kvs, x = .ref d ∧ vs = [] ∧ Rd H d (.dK kvs) ∧ ∀ v, H v = none → Q (.ref v) (upd H v (.ext (IsItems v d)))) := by
  intro pins s σ H x vs v us Q I rx r h
  obtain ⟨d, kvs, rfl, rfl, hd, q⟩ := h
  cases (show v = Value.ref d from rx)
  cases r
  obtain ⟨z, lo, rs, rel, dd⟩ := dk_rd I.hok hd
  have hf : H s.heap.objs.size = none := I.hok.fresh (Nat.le_refl _)
  refine call_meetsIn PySem.F.slot_dict_items dd.typeIs PySem.F.entry_dict_items (PySem.F.args_dict_items_1 _) (meets_dict_items (mixKind X.prog X.w) d lo) ⟨⟨rs, dd⟩, ?_⟩
  refine ⟨.ref s.heap.objs.size, _, I.laid (t' := s.toks) (fun b o e => Heap.get?_push_of_some _ e) (Nat.le_refl _) (show ObjOk X.prog X.w _ _ _ (.ext (IsItems s.heap.objs.size d)) from ⟨Heap.get?_push_size _ rfl, ⟨_, Heap.get?_push_size _ rfl⟩, fun h1 h2 a b => b _ a⟩), rfl, q _ hf⟩
theorem call_sortedItems {X : Cx} (hc : X.calm = true) : CallR X (.builtin "sorted") (fun xs H Q => ∃ (v d : Addr) (ms : List (Int × V)), xs = [.ref v] ∧ H v = some (.ext (IsItems v d)) ∧ Rd H d (.dK (ms.map fun m => (Sum.inl m.1, m.2))) ∧ ms.length < 64 ∧
    ∀ (l : Addr) (as : List Addr) (ns : List (Int × V)) (H' : Hp), Same H H' → H' l = some (.lst (as.map V.ref)) → Paired (fun a (m : Int × V) => H' a = some (.tup [.int m.1, m.2])) as ns → ns.Perm ms → ns.Pairwise (fun a b => a.1 < b.1) → Q (.ref l) H') := by
  intro pins s σ H xs us Q I r h
  obtain ⟨v, d, ms, rfl, hv, hd, h64, q⟩ := h
  obtain ⟨u, rfl, rx⟩ := r.one
  cases (show u = Value.ref v from rx)
  obtain ⟨hz, lo, rs, rel, dd⟩ := dk_rd I.hok hd
  have hview : IsItems v d s.heap := (show ObjOk X.prog X.w H s.heap v (.ext (IsItems v d)) from I.hok v _ hv).1
  have lr : ms.length = rs.length := by rw [← rel.length, List.length_map]
  have nodup : (rs.map (·.1)).Nodup := let ⟨_, _, _, _, _, _, _, _, hn⟩ := dd; hn
  have keyAt : ∀ (j : Nat) k x, rs[j]? = some (k, x) → ∃ m, ms[j]? = some m ∧ k = Sum.inl m.1 ∧ RelV m.2 x := fun j k x e => by
    have hj : j < ms.length := by rw [lr]; exact (List.getElem?_eq_some_iff.mp e).1
    have e1 : (ms.map fun m => ((Sum.inl m.1 : Key), m.2))[j]? = some (Sum.inl ms[j].1, ms[j].2) := by rw [List.getElem?_map, List.getElem?_eq_getElem hj]; rfl
    have z := pair_get rel j _ _ e1 e
    exact ⟨ms[j], List.getElem?_eq_getElem hj, z.1.symm, z.2⟩
  have ek : rs.map (·.1) = ms.map fun m => (Sum.inl m.1 : Key) := by
    rw [← rel.keys, List.map_map]
    rfl
  have inj : ∀ i j, i < rs.length → j < rs.length → (ms.getD i (0, .non)).1 = (ms.getD j (0, .non)).1 → i = j := fun i j hi hj e => by
    have hi' : i < ms.length := by omega
    have hj' : j < ms.length := by omega
    rw [ek] at nodup
    have e' : ms[i].1 = ms[j].1 := by simpa [hi', hj'] using e
    have : (ms.map fun m => (Sum.inl m.1 : Key))[i]'(by simpa using hi') = (ms.map fun m => (Sum.inl m.1 : Key))[j]'(by simpa using hj') := by simp [e']
    exact (List.getElem_inj nodup).mp this
  refine Dt.sorted_items (knd := mixKind X.prog X.w) (kvs := rs) (key := fun j => (ms.getD j (0, .non)).1) (I.ok.hd hc) ⟨_, hview, rfl, rfl⟩ dd (by omega) (fun j k x u e hk => ?_) inj fun B h' tk as p n k hB hl hA ndA pr ok up e => ?_
  · obtain ⟨m, e1, rfl, _⟩ := keyAt j k x e
    obtain ⟨t, rfl⟩ := Value.isInt_shape (k := m.1) hk
    exact ⟨t, by simp [e1]⟩
  · -- the tuples, tracked
    let l : List (Addr × List V) := (as.zip ms).map fun z => (z.1, [.int z.2.1, z.2.2])
    have lm : as.length = ms.length := by omega
    have lf : l.map (·.1) = as := by
      show ((as.zip ms).map _).map _ = as
      rw [List.map_map]
      exact List.map_fst_zip (by omega)
    have mem : ∀ z ∈ l, ∃ (j : Nat) (a : Addr) (m : Int × V), as[j]? = some a ∧ ms[j]? = some m ∧ z = (a, [.int m.1, m.2]) := fun z hz => by
      obtain ⟨y, hy, rfl⟩ := List.mem_map.mp hz
      obtain ⟨j, hj⟩ := List.mem_iff_getElem?.mp hy
      rw [List.getElem?_zip_eq_some] at hj
      exact ⟨j, y.1, y.2, hj.1, hj.2, rfl⟩
    have J := I.newAll (t' := tk) k l (fun z hz => by
      obtain ⟨j, a, m, e1, e2, rfl⟩ := mem z hz
      exact (hA a (List.mem_of_getElem? e1)).1) (fun z hz G => by
      obtain ⟨j, a, m, e1, e2, rfl⟩ := mem z hz
      obtain ⟨k', x, u, e3, e4, e5⟩ := pr j a e1
      obtain ⟨m', e6, rfl, rv⟩ := keyAt j k' x e3
      rw [e2] at e6
      cases e6
      obtain ⟨t, rfl⟩ := Value.isInt_shape (k := m.1) e4
      exact ⟨(by show 2 ≤ sizeLine; decide), [.int m.1 t, x], .cons ⟨t, rfl⟩ (.cons rv .nil), _, e5, ⟨rfl, rfl⟩, 0, rfl⟩) (by rw [lf]; exact ndA)
    have nB : B ∉ l.map (·.1) := by
      rw [lf]
      exact fun z => (hA B z).2 rfl
    have hps := ok.size
    let as' : List Addr := p.toList.map fun i => as.getD i 0
    let ns' : List (Int × V) := p.toList.map fun i => ms.getD i (0, .non)
    have ea : (p.toList.map fun i => (as.map Value.ref).getD i Value.none) = as'.map Value.ref := by
      show _ = (p.toList.map _).map _
      rw [List.map_map]
      refine List.map_congr_left fun i hi => ?_
      have : i < as.length := by rw [hl]; exact List.mem_range.mp (ok.mem_iff.mp hi)
      simp [this]
    rw [ea] at e
    have vals : Vals (as'.map V.ref) (as'.map Value.ref) := by
      generalize as' = z
      induction z with
      | nil => exact .nil
      | cons a z ih => exact .cons rfl ih
    have la : as'.length = rs.length := by show (p.toList.map _).length = _; rw [List.length_map, Array.length_toList, hps]
    have J2 := I.later (o := .lst (as'.map V.ref)) hB J (track_none (I.none_at hB) nB) (show ObjOk X.prog X.w _ _ _ (.lst (as'.map V.ref)) from ⟨by rw [List.length_map, la, sizeLine_eq]; omega, as'.map Value.ref, n, vals, e⟩)
    have tr : ∀ (j : Nat) a m, as[j]? = some a → ms[j]? = some m → track H l a = some (.tup [.int m.1, m.2]) := fun j a m e1 e2 =>
      track_at (H := H) (by rw [lf]; exact ndA) (a, [.int m.1, m.2]) (List.mem_map.mpr ⟨(a, m), List.mem_iff_getElem?.mpr ⟨j, List.getElem?_zip_eq_some.mpr ⟨e1, e2⟩⟩, rfl⟩)
    have sm : Same H (track H l) := fun b o eb => by
      have hb : b ∉ l.map (·.1) := fun z => by
        rw [lf] at z
        obtain ⟨u, hu⟩ := (I.hok b o eb).there
        rw [(hA b z).1] at hu
        cases hu
      have go : ∀ {l : List (Addr × List V)}, b ∉ l.map (·.1) → track H l b = H b := by
        intro l
        induction l with
        | nil => intro _; rfl
        | cons p l ih =>
          intro n
          rw [List.map_cons, List.mem_cons, not_or] at n
          show upd (track H l) p.1 (.tup p.2) b = _
          rw [upd_ne n.1]
          exact ih n.2
      rw [go hb]
      exact eb
    refine ⟨.ref B, _, J2, rfl, q B as' ns' _ (same_upd sm (I.none_at hB)) upd_same ?_ ?_ ?_⟩
    · show Paired _ (p.toList.map _) (p.toList.map _)
      have all : ∀ i ∈ p.toList, i < ms.length := fun i hi => by rw [lr]; exact List.mem_range.mp (ok.mem_iff.mp hi)
      generalize p.toList = z at all
      induction z with
      | nil => exact .nil
      | cons i z ih =>
        have hi := all i (.head _)
        have hia : i < as.length := by omega
        refine .cons ?_ (ih fun j hj => all j (.tail _ hj))
        have e1 : as.getD i 0 = as[i] := by simp [hia]
        have e2 : ms.getD i (0, .non) = ms[i] := by simp [hi]
        dsimp only
        rw [e1, e2]
        have ne : as[i] ≠ B := (hA _ (List.getElem_mem hia)).2
        rw [upd_ne ne]
        exact tr i _ _ (List.getElem?_eq_getElem hia) (List.getElem?_eq_getElem hi)
    · show (p.toList.map _).Perm ms
      have e2 : (List.range ms.length).map (fun i => ms.getD i (0, .non)) = ms := by
        apply List.ext_getElem
        · simp
        · intro i h1 h2
          simp at h1
          simp [h1]
      rw [← lr] at ok
      have z := ok.map fun i => ms.getD i (0, .non)
      rw [e2] at z
      exact z
    · show (p.toList.map _).Pairwise _
      rw [List.pairwise_map, List.pairwise_iff_getElem]
      intro i j hi hj hij
      have h1 : p.toList[i] = p.getD i 0 := by simp at hi; simp [Array.getD, hi]
      have h2 : p.toList[j] = p.getD j 0 := by simp at hj; simp [Array.getD, hj]
      rw [h1, h2]
      exact up i j hij (by simpa [hps] using hj)
end L2


set_option Elab.async false
set_option linter.all false
set_option maxRecDepth 100000
set_option maxHeartbeats 4000000
namespace Dt
open PySem PySem.Spec PyProof.Rows
open AutoSeq1 (wpAny_loadPart')
section
variable {prog : Program} {w : World} {A : Around} {E : Value → Shared → Prop} {s : Shared}
theorem next_tuple {it t : Addr} {i : Nat} {items : Array Value} {x : Value} {Q : Value → Shared → Prop} (hit : s.heap.IsTupleIter it t i) (ht : s.heap.IsTuple t items) (hx : items[i]? = some x)
    (hQ : ∀ h', h'.IsTupleIter it t (i + 1) → Heap.SameBut it s.heap h' → Q x { s with heap := h' }) : wpAny (model prog w) A (Builtin.SmallTypes.nextOf (.ref it)) Q E s := by
  obtain ⟨o, ho, hc, hd⟩ := id hit
  obtain ⟨ol, hol, _, nl, hdl⟩ := ht
  unfold Builtin.SmallTypes.nextOf
  refine wpAny_bind (wpAny_callSpecial?_slot (name := Str.ofString "__next__") hit.typeIs PySem.F.slot_tuple_iterator_next
    (wpAny_call_entry PySem.F.slot_tuple_iterator_next hit.typeIs PySem.F.entry_tuple_iterator_next ?_ (PySem.F.args_tuple_iterator_next_1 _)))
  show wpAny _ _ (field (.ref it) 0 >>= _) _ _ s
  refine wpAny_bind (wpAny_field ho hd (x := .ref t) rfl ?_)
  show wpAny _ _ (if (Value.ref t == Value.none) = true then _ else _) _ _ s
  rw [if_neg (show ¬ ((Value.ref t == Value.none) = true) from Bool.false_ne_true)]
  show wpAny _ _ (field (.ref it) 1 >>= _) _ _ s
  refine wpAny_bind (wpAny_field ho hd (x := .int i 0) rfl ?_)
  show wpAny _ _ (seqItems? (.ref t) >>= _) _ _ s
  refine wpAny_bind (wpAny_seqItems hol hdl ?_)
  simp only [Int.toNat_natCast, hx]
  refine wpAny_bind (wpAny_setField ho hd (by simp) (wpAny_pure ⟨x, rfl, wpAny_pure (hQ _ ?_ (Heap.SameBut.update ..))⟩))
  exact ⟨_, Heap.get?_update_self _ ho (Obj.isFreed_of_fields (Obj.data_mapFields hd _)), (Obj.cls_mapFields ..).trans hc, by
    rw [Obj.data_mapFields hd]; simp [rawInt]⟩
theorem next_tuple_end {it t : Addr} {i : Nat} {items : Array Value} {Q : Value → Shared → Prop} (hh : A.handled = none) (hit : s.heap.IsTupleIter it t i) (ht : s.heap.IsTuple t items) (hx : items[i]? = none)
    (hE : ∀ h' e, Heap.ExtBut it s.heap h' → (∃ o, h'.get? e = some o ∧ o.cls = .type "StopIteration") → E (.ref e) { s with heap := h' }) : wpAny (model prog w) A (Builtin.SmallTypes.nextOf (.ref it)) Q E s := by
  obtain ⟨o, ho, hc, hd⟩ := id hit
  obtain ⟨ol, hol, _, nl, hdl⟩ := ht
  unfold Builtin.SmallTypes.nextOf
  refine wpAny_bind (wpAny_callSpecial?_slot (name := Str.ofString "__next__") hit.typeIs PySem.F.slot_tuple_iterator_next
    (wpAny_call_entry PySem.F.slot_tuple_iterator_next hit.typeIs PySem.F.entry_tuple_iterator_next ?_ (PySem.F.args_tuple_iterator_next_1 _)))
  show wpAny _ _ (field (.ref it) 0 >>= _) _ _ s
  refine wpAny_bind (wpAny_field ho hd (x := .ref t) rfl ?_)
  show wpAny _ _ (if (Value.ref t == Value.none) = true then _ else _) _ _ s
  rw [if_neg (show ¬ ((Value.ref t == Value.none) = true) from Bool.false_ne_true)]
  show wpAny _ _ (field (.ref it) 1 >>= _) _ _ s
  refine wpAny_bind (wpAny_field ho hd (x := .int i 0) rfl ?_)
  show wpAny _ _ (seqItems? (.ref t) >>= _) _ _ s
  refine wpAny_bind (wpAny_seqItems hol hdl ?_)
  simp only [Int.toNat_natCast, hx]
  refine wpAny_bind (wpAny_rule (wpAny_bind (wpAny_setField ho hd (by simp) ?_)))
  show wpAny _ _ (newExc (.type "StopIteration") [] >>= _) _ _ _
  refine wpAny_bind ?_
  simp only [newExc, newTuple]
  refine wpAny_bind (wpAny_newObj_type ?_ (by size_fits))
  refine wpAny_bind (m := firstArgMember _ _) (wpAny_of_eq (a := Value.none) (by first | rfl | (simp only [firstArgMember]; rfl)) ?_)
  refine wpAny_newObj_type ?_ (by size_fits)
  unfold raiseNew
  refine wpAny_bind (wpAny_handled ?_)
  first | rw [show A.in1.handled = none from hh] | rw [hh]
  refine wpAny_bind (wpAny_pure (wpAny_throw ?_))
  exact hE _ _ (((Heap.SameBut.update ..).extBut.push _).push _) ⟨_, Heap.get?_push_size _ rfl, rfl⟩
end
theorem draws {prog : Program} {w : World} {A : Around} (hh : A.handled = none) (it t : Addr) (hne : t ≠ it) (items : Array Value) :
    Draws prog w A it [it, t] items.size (fun i v => items[i]? = some v) (fun i h => h.IsTupleIter it t i ∧ h.IsTuple t items) where
  live := fun _ _ st => let ⟨o, ho, _⟩ := st.1; ⟨o, ho⟩
  frame := fun _ _ _ st hk => ⟨let ⟨o, ho, r⟩ := st.1; ⟨o, hk it (by simp) o ho, r⟩, let ⟨o, ho, r⟩ := st.2; ⟨o, hk t (by simp) o ho, r⟩⟩
  item := fun i s Q E hi st hQ => by
    refine next_tuple st.1 st.2 (x := items[i]) (by simp [hi]) fun h' hit' hs' => ?_
    exact hQ _ h' s.toks (by simp [hi]) ⟨hit', st.2.extBut hs'.extBut hne⟩ hs'
  done := fun s Q E st hE => next_tuple_end hh st.1 st.2 (by simp) hE
theorem enum_new (t : Addr) (items : Array Value) (n : Nat) (dct : Option Addr) (sl : Array (Option Value)) :
    Meets (Builtin.«enumerate.__new__» ⟨[.type "enumerate", .ref t], []⟩) (fun _ R s => s.heap.get? t = some { cls := .type "tuple", dict := dct, data := .seq items n, slots := sl } ∧
      R (.ok (.ret (.ref (s.heap.push { cls := .type "tuple_iterator", data := .fields #[.ref t, .int 0 0] }).objs.size)))
        { s with heap := (s.heap.push { cls := .type "tuple_iterator", data := .fields #[.ref t, .int 0 0] }).push { cls := .type "enumerate", data := .fields #[.none, .bool false, .ref s.heap.objs.size, rawInt 0, .none, .none] } }) :=
  .of_wp fun prog w A R s h => by
    obtain ⟨hp, g, d, tk, os⟩ := s; obtain ⟨hl, h⟩ := h
    have hsub := sub_enumerate
    have hL : Heap.IsTuple (Shared.heap ⟨hp, g, d, tk, os⟩) t items := ⟨_, hl, rfl, n, rfl⟩
    wp_walk using wpAny_loadPart' hl
    refine wpAny_stack_any fun st => wpAny_pure ?_
    split
    · rename_i c _ _ _ _ _
      cases (c == Value.type "enumerate")
      · wp_walk using wpAny_loadPart' hl, wpAny_pyIter_tuple hL
        exact ⟨_, rfl, h⟩
      · wp_walk using wpAny_loadPart' hl, wpAny_pyIter_tuple hL
        exact ⟨_, rfl, h⟩
    · wp_walk using wpAny_loadPart' hl, wpAny_pyIter_tuple hL
      exact ⟨_, rfl, h⟩
theorem call_enum {prog : Program} {w : World} {A : Around} {E : Value → Shared → Prop} {s : Shared} {t : Addr} {items : Array Value} {Q : Value → Shared → Prop} (hL : s.heap.IsTuple t items)
    (h : ∀ h', IsEnum h' (s.heap.objs.size + 1) s.heap.objs.size 0 .none → h'.IsTupleIter s.heap.objs.size t 0 → h'.objs.size = s.heap.objs.size + 2 →
      (∀ b o, s.heap.get? b = some o → h'.get? b = some o) → Q (.ref (s.heap.objs.size + 1)) { s with heap := h' }) :
    wpAny (model prog w) A (call (.type "enumerate") [.ref t]) Q E s := by
  obtain ⟨⟨c, dct, dt, sl⟩, hl, hc, n, hd⟩ := hL
  replace hc : c = .type "tuple" := hc
  replace hd : dt = .seq items n := hd
  subst hc hd
  refine callType_new PySem.F.called_enumerate (by decide) (PySem.F.typeCall_enumerate_1 _) (PySem.F.newCall_enumerate_1 _) (fun obj => PySem.F.args_object_init_2 obj _) PySem.F.entry_enumerate_new
    (enum_new t items n dct sl) ⟨hl, ?_⟩
  have hz : (s.heap.push { cls := .type "tuple_iterator", data := .fields #[.ref t, .int 0 0] }).objs.size = s.heap.objs.size + 1 := Heap.size_push ..
  show _ ∧ _
  rw [hz]
  have he : IsEnum ((s.heap.push { cls := .type "tuple_iterator", data := .fields #[.ref t, .int 0 0] }).push
      { cls := .type "enumerate", data := .fields #[.none, .bool false, .ref s.heap.objs.size, rawInt 0, .none, .none] }) (s.heap.objs.size + 1) s.heap.objs.size 0 .none := by
    have := Heap.get?_push_size (s.heap.push { cls := .type "tuple_iterator", data := .fields #[.ref t, .int 0 0] })
      (o := { cls := .type "enumerate", data := .fields #[.none, .bool false, .ref s.heap.objs.size, rawInt 0, .none, .none] }) rfl
    rw [hz] at this; exact this
  refine ⟨⟨_, he, rfl⟩, h _ he ⟨_, Heap.get?_push_of_some _ (Heap.get?_push_size _ rfl), rfl, rfl⟩ (by rw [Heap.size_push, hz]) fun b o x => Heap.get?_push_of_some _ (Heap.get?_push_of_some _ x)⟩
theorem enum_end {prog : Program} {w : World} {A : Around} {E : Value → Shared → Prop} {s : Shared} {e it t : Addr} {i : Nat} {items : Array Value} {old : Value} {Q : Option Value → Shared → Prop} (hh : A.handled = none)
    (he : IsEnum s.heap e it i old) (hit : s.heap.IsTupleIter it t i) (ht : s.heap.IsTuple t items) (hx : items[i]? = none)
    (hQ : ∀ h', Heap.ExtBut it s.heap h' → Q none { s with heap := h' }) : wpAny (model prog w) A (pyNext (.ref e)) Q E s := by
  have hT : s.TypeIs (.ref e) "enumerate" := ⟨_, he, rfl⟩
  unfold pyNext
  refine wpAny_bind (wpAny_attempt (wpAny_callSpecial?_slot (name := Str.ofString "__next__") hT PySem.F.slot_enumerate_next
    (wpAny_call_entry PySem.F.slot_enumerate_next hT PySem.F.entry_enumerate_next ?_ (PySem.F.args_enumerate_next_1 _))))
  show wpAny _ _ (field (.ref e) 2 >>= _) _ _ _
  refine wpAny_bind (wpAny_field he rfl (x := .ref it) rfl ?_)
  refine wpAny_bind (next_tuple_end hh hit ht hx fun h' x he' hx' => ?_)
  obtain ⟨o, ho, hc⟩ := hx'
  refine wpAny_bind (wpAny_isInstance (T := "StopIteration") (b := true) ⟨o, ho, hc⟩ isSubtype_stop ?_)
  exact wpAny_pure (hQ _ he')
end Dt
namespace L2
open PySem PySem.Spec PyProof.Rows
def IteT (a : Addr) : It :=
  ⟨fun i H => ∃ xs x, H a = some (.tup xs) ∧ xs[i]? = some x, fun i H v H' => ∃ p x, H p = none ∧ v = .ref p ∧ H' = upd H p (.tup [.int i, x]) ∧ ∀ xs, H a = some (.tup xs) → xs[i]? = some x, fun i H => ∃ xs, H a = some (.tup xs) ∧ xs.length ≤ i⟩
theorem turn_enumT {P : Program} {w : World} {K : PySem.W.Frag} {elts : List Expr} {x1 : Nat} {pos : Pos} (a it e : Addr) (hne : e ≠ it) : Turn P w K (.Tuple elts x1 pos) (IteT a) [e, it] e (fun i h => (∃ old, IsEnum h e it i old) ∧ h.IsTupleIter it a i) where
  mem := by simp
  obj := fun i h st b hb => by
    obtain ⟨⟨old, he⟩, hit⟩ := st
    have hb' : b = e ∨ b = it := by simpa using hb
    rcases hb' with rfl | rfl
    · exact ⟨_, he, fun v z => nomatch z⟩
    · obtain ⟨o, e, c, d⟩ := hit
      exact ⟨o, e, fun v z => by rw [d] at z; cases z⟩
  keep := fun i h h' st k => by
    obtain ⟨⟨old, he⟩, o, ho, r⟩ := st
    exact ⟨⟨old, k e (by simp) _ he⟩, o, k it (by simp) o ho, r⟩
  item := by
    intro X hP hw hK hc i pins s σ H E I hf st hg
    subst hP hw hK
    obtain ⟨⟨old, he⟩, hit⟩ := st
    obtain ⟨xs, x, hq, hx⟩ := hg
    obtain ⟨its, rv, p, hz⟩ := I.tuple (SqT.of hq)
    obtain ⟨u, hu, ru⟩ := rv.get hx
    have fe := hf e (by simp)
    have fi := hf it (by simp)
    have nt : ∀ b u, H b = some u → b ≠ e ∧ b ≠ it := fun b u q => ⟨(fun z => by rw [z, fe.1] at q; cases q), (fun z => by rw [z, fi.1] at q; cases q)⟩
    have na := nt a _ hq
    have hui : its.toArray[i]? = some u := by simpa using hu
    have hlt : i < its.toArray.size := (Array.getElem?_eq_some_iff.mp hui).1
    refine wpAny_pyNext_enum_itemD (Dt.draws (A := X.A.in1) (I.ok.hd hc) it a na.2 its.toArray) he ⟨hit, show s.heap.IsTuple a its.toArray from p⟩ hlt hne (by simp [hne, Ne.symm na.1]) fun u' h' tk hu' ho' hst' ht' hsz' hk' => ?_
    have hit' := hst'.1
    have eu : u' = u := by rw [hui] at hu'; exact (Option.some.inj hu').symm
    subst eu
    refine ⟨_, rfl, wpAny_letOwnedTupleGo_enum (s := { s with heap := h', toks := tk + 1 }) ho' fun h2 he2 sb2 => ?_⟩
    have hel : e < s.heap.objs.size := Heap.lt_size he
    have nn : H s.heap.objs.size = none := I.hok.fresh (Nat.le_refl _)
    have keep : ∀ b o, b ≠ e → b ≠ it → s.heap.get? b = some o → h2.get? b = some o := fun b o n1 n2 q => (sb2.2 b n1).trans (hk' b o n1 n2 q)
    have mem2 : ∀ b, b ∉ [e, it] → b ≠ e ∧ b ≠ it := fun b hb => by simpa using hb
    have I1 : Inv X pins σ H { s with heap := h2, toks := tk + 1 } := by
      refine I.step (g' := s.gens) (d' := s.drawn) (ch := [e, it]) (fun b hb => ?_) (fun b o _ _ hc q _ => keep b o (mem2 b hc).1 (mem2 b hc).2 q) (fun b o _ _ hc q _ => ⟨o.slots, keep b o (mem2 b hc).1 (mem2 b hc).2 q⟩) (fun _ _ _ _ n => n)
        (fun b o hc q => ⟨o, keep b o (mem2 b hc).1 (mem2 b hc).2 q⟩) (fun _ _ q => q) (fun _ _ _ q => q) (fun b ps q => ⟨#[], by rw [q]; simp⟩) (fun m hm => ?_) (fun b u q => ?_) I.bare
      · have hb' : b = e ∨ b = it := by simpa using hb
        rcases hb' with rfl | rfl
        · exact ⟨fe.2.2.2.1, fe.2.1, fe.2.2.2.2.1, fe.2.2.2.2.2⟩
        · exact ⟨fi.2.2.2.1, fi.2.1, fi.2.2.2.2.1, fi.2.2.2.2.2⟩
      · obtain ⟨o, es, ep, ho, r⟩ := hm
        exact ⟨o, es, ep, keep _ o (Ne.symm fe.2.1) (Ne.symm fi.2.1) ho, r⟩
      · refine (I.hok b u q).stay (fun c v hc q' => keep c v ?_ ?_ q') (fun _ q' => q') fun _ _ q' => q'
        · rcases hc with z | z
          · rw [z]; exact (nt b u q).1
          · exact (nt c _ z).1
        · rcases hc with z | z
          · rw [z]; exact (nt b u q).2
          · exact (nt c _ z).2
    have ht2 : h2.get? s.heap.objs.size = some { cls := .type "tuple", data := .seq #[.int i tk, u'] } := (sb2.2 _ (Nat.ne_of_gt hel)).trans ht'
    have I2 : Inv X pins σ (upd H s.heap.objs.size (.tup [.int i, x])) { s with heap := h2, toks := tk + 1 } :=
      I.later (Heap.get?_none_of_le (Nat.le_refl _)) I1 nn ⟨(by show 2 ≤ sizeLine; decide), [.int i tk, u'], .cons ⟨_, rfl⟩ (.cons ru .nil), _, ht2, ⟨rfl, rfl⟩, 0, rfl⟩
    refine ⟨.ref s.heap.objs.size, _, I2, rfl, ⟨s.heap.objs.size, x, nn, rfl, rfl, fun ys hy => by rw [hq] at hy; cases hy; exact hx⟩, ⟨⟨_, he2⟩, hit'.extBut sb2.extBut (Ne.symm hne)⟩, fun b hb => ?_⟩
    have hlt : b < s.heap.objs.size := by
      have hb' : b = e ∨ b = it := by simpa using hb
      rcases hb' with rfl | rfl
      · exact hel
      · obtain ⟨o, e, _⟩ := hit; exact Heap.lt_size e
    rw [upd_ne (Nat.ne_of_lt hlt)]
    exact (hf b hb).1
  done := by
    intro X hP hw hK hc i pins s σ H E I hf st hg
    subst hP hw hK
    obtain ⟨⟨old, he⟩, hit⟩ := st
    obtain ⟨xs, hq, hx⟩ := hg
    obtain ⟨its, rv, p, hz⟩ := I.tuple (SqT.of hq)
    obtain ⟨f0, f1, f2, f3, f4, f5⟩ := hf it (by simp)
    have fe := hf e (by simp)
    have hl := rv.length
    have na : a ≠ it := fun z => by rw [z, f0] at hq; cases hq
    have hi2 : i = its.toArray.size ∨ its.toArray.size < i := by
      rw [List.size_toArray]; omega
    refine Dt.enum_end (I.ok.hd hc) he hit (show s.heap.IsTuple a its.toArray from p) (by rw [Array.getElem?_eq_none_iff, List.size_toArray]; omega) fun h' eb => ⟨rfl, I.turned (t' := s.toks) (fun b o hb e => eb b o hb e) f0 f1 f3 f4 f5⟩
  self := fun _ _ _ _ _ st h => let ⟨⟨_, he⟩, _⟩ := st; wpAny_pyIter_enum he h
def iEnumT (ta : TA) : TI := fun σ H R => ta σ H fun vs H1 => ∃ a, vs = [.ref a] ∧ (∃ xs, H1 a = some (.tup xs)) ∧ R (IteT a) H1
theorem pi_enumT {X : Cx} {elts : List Expr} {x1 : Nat} {tpos : Pos} {a : Expr} {ta : TA} {p pos : Pos} (hg : Gl X "enumerate") (hm : X.mg "enumerate" = none) (ha : PA X [a] ta) (hs : starEach [a] X.env = [(false, eval a X.env)] := by rfl) :
    PI X (.Tuple elts x1 tpos) (.Call (.Name "enumerate" p) [a] [] pos) (iEnumT ta) := by
  intro pins s σ H R I h
  refine Call_ (ld_blt I hg hm bt_enumerate (PyProof.Rows.callWith_type1 (thn (ha pos pins s σ H _ I h) fun us s1 ⟨vs, H1, I1, r1, q1⟩ => ?_) hs rfl))
  obtain ⟨l, e, ⟨xs, hq⟩, q⟩ := q1
  subst e
  obtain ⟨u, rfl, rx⟩ := r1.one
  cases (show u = Value.ref l from rx)
  obtain ⟨its, rv, pl, hz⟩ := I1.tuple (SqT.of hq)
  refine Dt.call_enum (show s1.heap.IsTuple l its.toArray from pl) fun h' he hit hsz hk => ?_
  refine wpAny_pyIter_enum he ?_
  have I2 : Inv X pins σ H1 { s1 with heap := h' } := I1.kept (t' := s1.toks) hk
  refine ⟨s1.heap.objs.size + 1, [s1.heap.objs.size + 1, s1.heap.objs.size], _, _, H1, rfl, I2, turn_enumT l _ _ (Nat.succ_ne_self _), ⟨⟨_, he⟩, hit⟩, fun b hb => ?_, q⟩
  have hb' : b = s1.heap.objs.size + 1 ∨ b = s1.heap.objs.size := by simpa using hb
  have ge : s1.heap.objs.size ≤ b := by
    rcases hb' with rfl | rfl
    · exact Nat.le_succ _
    · exact Nat.le_refl _
  have F := I1.fpOk ge (I1.hok.fresh ge)
  exact F
theorem for_enumT {a : Addr} {xs : List V} {g : TG} {tb : TS} {D : Ends} {σ : St} {H : Hp} (Pv : Nat → St → Hp → Prop) (h0 : Pv 0 σ H) (hl : ∀ i σ H, i ≤ xs.length → Pv i σ H → H a = some (.tup xs))
    (hs : ∀ i x σ H, xs[i]? = some x → Pv i σ H → ∀ p, H p = none → g (.ref p) σ (upd H p (.tup [.int i, x])) fun σ2 H2 => tb { D with nx := Pv (i + 1), ct := Pv (i + 1), bk := D.nx } σ2 H2) (hd : ∀ σ H, Pv xs.length σ H → D.nx σ H) :
    ∃ W : Nat → Nat → St → Hp → Prop, (∃ m, W 0 m σ H) ∧ ∀ i m σ H, W i m σ H →
      ((IteT a).stop i H ∧ D.nx σ H) ∨ ((IteT a).go i H ∧ ∃ N : St → Hp → Prop, (∀ σ' H', N σ' H' → ∃ m', m' < m ∧ W (i + 1) m' σ' H') ∧ ∀ x H', (IteT a).yld i H x H' → g x σ H' fun σ2 H2 => tb { D with nx := N, ct := N, bk := D.nx } σ2 H2) := by
  refine ⟨fun i m σ H => m = xs.length - i ∧ i ≤ xs.length ∧ Pv i σ H, ⟨_, rfl, Nat.zero_le _, h0⟩, fun i m σ H ⟨hm, hi, p⟩ => ?_⟩
  by_cases hlt : i < xs.length
  · have e := List.getElem?_eq_getElem hlt
    refine .inr ⟨⟨xs, xs[i], hl i σ H hi p, e⟩, Pv (i + 1), fun σ' H' p' => ⟨xs.length - (i + 1), by omega, rfl, hlt, p'⟩, fun v H' y => ?_⟩
    obtain ⟨q, x, hq, rfl, rfl, hx⟩ := y
    have := hx xs (hl i σ H hi p)
    exact hs i x σ H this p q hq
  · have : i = xs.length := by omega
    subst this
    exact .inl ⟨⟨xs, hl _ σ H hi p, Nat.le_refl _⟩, hd σ H p⟩
theorem ints_of_vals : ∀ {ns : List Int} {us : List Value}, Vals (ns.map V.int) us → IntsAre us ns
  | [], _, .nil => .nil
  | n :: ns, _ :: us, .cons r t => by
    obtain ⟨k, rfl⟩ := r
    exact .cons n k (ints_of_vals t)
theorem call_maxL {X : Cx} {K : PySem.W.Frag} (hK : X.K = K) (hc : X.calm = true) : CallR X (.builtin "max") (fun xs H Q => ∃ (l : Addr) (ns : List Int), xs = [.ref l] ∧ SqL K H l (ns.map V.int) ∧ 0 < ns.length ∧ ∀ M, M ∈ ns → (∀ a, a ∈ ns → a ≤ M) → Q (.int M) H) := by
  subst hK
  intro pins s σ H xs us Q I r h
  obtain ⟨l, ns, rfl, hl, hne, q⟩ := h
  obtain ⟨u, rfl, rx⟩ := r.one
  cases (show u = Value.ref l from rx)
  obtain ⟨its, rv, pl, hz⟩ := I.list hl
  have hi : IntsAre its ns := ints_of_vals rv
  obtain ⟨ys, e⟩ := hi.allInts.items
  have hns : ns = ys.toList.map (·.1) := by rw [← hi.numsOf, ← nums_intItems, ← e]
  have hsz : 0 < ys.size := by
    have h3 := hne; rw [hns, List.length_map, Array.length_toList] at h3; exact h3
  have hl' := pl.isList
  rw [e] at hl'
  refine max_intList (I.ok.hd hc) hl' hsz fun v h' tk hv hk => ?_
  obtain ⟨t, rfl⟩ := intItems_at hv
  obtain ⟨h1, h2⟩ := argBest_gt (numAt ys) (ys.size - 1)
  refine ⟨.int _, H, I.kept (t' := tk) hk, ⟨t, rfl⟩, q _ ?_ fun a ha => ?_⟩
  · rw [hns, numAt_eq]; exact getD_mem (by rw [List.length_map, Array.length_toList]; omega)
  · rw [hns] at ha
    obtain ⟨j, hj, rfl⟩ := mem_getD ha
    rw [List.length_map, Array.length_toList] at hj
    rw [← numAt_eq]; exact h2 j (by omega)
theorem op_neT0 {X : Cx} {K : PySem.W.Frag} (hK : X.K = K) (hu : X.A.units < cLine) : OpR X (compareOp .NotEq) (fun x y H Q => ∃ p q xs, x = .ref p ∧ y = .ref q ∧ SqT K H p xs ∧ SqT K H q [] ∧ Q (.bl (!xs.isEmpty)) H) := by
  subst hK
  intro pins s σ H x y v u Q I rx ry h
  obtain ⟨p, q, xs, rfl, rfl, hx, hy, hq⟩ := h
  cases rx
  cases ry
  obtain ⟨its, r, pl, hz⟩ := I.tuple hx
  obtain ⟨its2, r2, pl2, hz2⟩ := I.tuple hy
  cases r2
  refine SeqAt.RcNeAt.tuples (e := fun _ => true) (show s.heap.IsTuple p its.toArray from pl) (show s.heap.IsTuple q #[] from pl2) hu (fun j h1 h2 => absurd h2 (Nat.not_lt_zero j)) _ _ _ _ ?_
  have e : (!((List.range (min its.toArray.size (#[] : Array Value).size)).all (fun _ => true) && its.toArray.size == (#[] : Array Value).size)) = !xs.isEmpty := by
    cases r with
    | nil => rfl
    | cons a b => rfl
  rw [e]
  exact ⟨.bl _, H, I, rfl, hq⟩
theorem op_eqT0 {X : Cx} {K : PySem.W.Frag} (hK : X.K = K) (hu : X.A.units < cLine) : OpR X (compareOp .Eq) (fun x y H Q => ∃ p q xs, x = .ref p ∧ y = .ref q ∧ SqT K H p xs ∧ SqT K H q [] ∧ Q (.bl xs.isEmpty) H) := by
  subst hK
  intro pins s σ H x y v u Q I rx ry h
  obtain ⟨p, q, xs, rfl, rfl, hx, hy, hq⟩ := h
  cases rx
  cases ry
  obtain ⟨its, r, pl, hz⟩ := I.tuple hx
  obtain ⟨its2, r2, pl2, hz2⟩ := I.tuple hy
  cases r2
  refine SeqAt.eq_tupleAt (e := fun _ => true) (show s.heap.IsTuple p its.toArray from pl) (show s.heap.IsTuple q #[] from pl2) hu (fun j h1 h2 => absurd h2 (Nat.not_lt_zero j)) ?_
  have e : ((List.range (min its.toArray.size (#[] : Array Value).size)).all (fun _ => true) && its.toArray.size == (#[] : Array Value).size) = xs.isEmpty := by
    cases r with
    | nil => rfl
    | cons a b => rfl
  rw [e]
  exact ⟨.bl _, H, I, rfl, hq⟩
end L2


set_option Elab.async false
set_option linter.all false
set_option maxRecDepth 100000
set_option maxHeartbeats 4000000
namespace L2
open PySem PySem.Spec PyProof.Rows
def hid (D : Addr) (H : Hp) : Hp := fun b => if b = D then none else H b
theorem hid_ne {D b : Addr} {H : Hp} (h : b ≠ D) : hid D H b = H b := by unfold hid; rw [if_neg h]
theorem hid_at {D : Addr} {H : Hp} : hid D H D = none := by unfold hid; rw [if_pos rfl]
theorem hid_upd {D : Addr} {H : Hp} {o : HO} : hid D (upd H D o) = hid D H := by
  funext b
  unfold hid
  by_cases h : b = D
  · rw [if_pos h, if_pos h]
  · rw [if_neg h, if_neg h, upd_ne h]
theorem hid_none {D : Addr} {H : Hp} (h : H D = none) : hid D H = H := by
  funext b
  unfold hid
  by_cases e : b = D
  · rw [if_pos e, e, h]
  · rw [if_neg e]
theorem hid_le {D : Addr} {H : Hp} : Same (hid D H) H := fun b o e => by
  by_cases h : b = D
  · rw [h, hid_at] at e; cases e
  · rw [hid_ne h] at e; exact e
theorem hid_same {D : Addr} {H H' : Hp} (s : Same H H') : Same (hid D H) (hid D H') := fun b o e => by
  by_cases h : b = D
  · rw [h, hid_at] at e; cases e
  · rw [hid_ne h] at e ⊢; exact s b o e
theorem SqT.hid {K : PySem.W.Frag} {H : Hp} {D p : Addr} {xs ys : List V} (e : H D = some (.lst ys)) (h : SqT K H p xs) : SqT K (hid D H) p xs := by
  rcases h with (h | ⟨o, h⟩) | h
  · refine .inl (.inl ?_)
    rw [hid_ne (ne_of h e (fun z => nomatch z))]; exact h
  · refine .inl (.inr ⟨o, ?_⟩)
    rw [hid_ne (ne_of h e (fun z => nomatch z))]; exact h
  · exact .inr h
theorem comp_same {J : It} {xs : List V} {g : TG} {ti : TT} {te : TE} {Fi : Hp → Prop} {σ1 : St} {H1 : Hp} {D : Addr} (hD : H1 D = none) (hz : xs.length < sizeLine)
    (hgo : ∀ (i : Nat) H', Same H1 H' → i < xs.length → J.go i H') (hst : ∀ H', Same H1 H' → J.stop xs.length H') (hy : ∀ (i : Nat) H' x H2, Same H1 H' → i < xs.length → J.yld i H' x H2 → H2 = H' ∧ xs[i]? = some x)
    (Pv : Nat → List V → St → Hp → Prop) (h0 : Pv 0 [] σ1 H1)
    (hs : ∀ i x ys σ H', xs[i]? = some x → Pv i ys σ (hid D H') → H' D = some (.lst ys) → Same H1 (hid D H') → ∀ (Ry : St → V → Hp → Prop) (Rn : St → Hp → Prop),
      (∀ σ2 y H5, Same H' H5 → Pv (i + 1) (ys ++ [y]) σ2 (hid D H5) → Ry σ2 y H5) → (∀ σ2 H4, Same H' H4 → Pv (i + 1) ys σ2 (hid D H4) → Rn σ2 H4) →
      g x σ H' fun σ2 H3 => ti σ2 H3 fun b H4 => if b = true then te σ2 H4 fun y H5 => Ry σ2 y H5 else Rn σ2 H4)
    (hd : ∀ ys σ H', Pv xs.length ys σ (hid D H') → H' D = some (.lst ys) → Same H1 (hid D H') → Fi H') :
    ∃ W : Nat → Nat → St → Hp → Prop, (∃ m, W 0 m σ1 (upd H1 D (.lst []))) ∧ ∀ i m σ' H', W i m σ' H' →
      (J.stop i H' ∧ Fi H') ∨ (J.go i H' ∧ ∀ x H2, J.yld i H' x H2 → g x σ' H2 fun σ2 H3 => ti σ2 H3 fun b H4 => if b = true then te σ2 H4 fun y H5 => ∃ ys, H5 D = some (.lst ys) ∧ ys.length < sizeLine ∧ ∃ m', m' < m ∧ W (i + 1) m' σ2 (upd H5 D (.lst (ys ++ [y])))
        else ∃ m', m' < m ∧ W (i + 1) m' σ2 H4) := by
  refine ⟨fun i m σ H' => m = xs.length - i ∧ i ≤ xs.length ∧ ∃ ys, ys.length ≤ i ∧ H' D = some (.lst ys) ∧ Same H1 (hid D H') ∧ Pv i ys σ (hid D H'), ⟨xs.length, by simp, Nat.zero_le _, [], Nat.le_refl _, upd_same, ?_, ?_⟩, ?_⟩
  · rw [hid_upd, hid_none hD]; exact fun _ _ e => e
  · rw [hid_upd, hid_none hD]; exact h0
  rintro i m σ H' ⟨rfl, hi, ys, hl, eD, sm, p⟩
  have sm' : Same H1 H' := fun b o e => hid_le b o (sm b o e)
  by_cases hlt : i < xs.length
  · refine .inr ⟨hgo i H' sm' hlt, fun x H2 y => ?_⟩
    obtain ⟨rfl, hx⟩ := hy i H' x H2 sm' hlt y
    refine hs i x ys σ H2 hx p eD sm _ _ (fun σ2 y H5 s5 p5 => ?_) (fun σ2 H4 s4 p4 => ?_)
    · refine ⟨ys, s5 _ _ eD, by omega, xs.length - (i + 1), by omega, rfl, hlt, ys ++ [y], by rw [List.length_append, List.length_singleton]; omega, upd_same, ?_, ?_⟩
      · rw [hid_upd]; exact fun b o e => hid_same s5 b o (sm b o e)
      · rw [hid_upd]; exact p5
    · exact ⟨xs.length - (i + 1), by omega, rfl, hlt, ys, by omega, s4 _ _ eD, fun b o e => hid_same s4 b o (sm b o e), p4⟩
  · have e : i = xs.length := by omega
    subst e
    exact .inl ⟨hst H' sm', hd ys σ H' p eD sm⟩
section
variable {K : PySem.W.Frag} {a : Addr} {xs : List V} {H1 : Hp}
theorem goL (h : SqL K H1 a xs) (i : Nat) (H' : Hp) (s : Same H1 H') (hi : i < xs.length) : (Itl K a).go i H' := ⟨xs, xs[i], s.seq h, List.getElem?_eq_getElem hi⟩
theorem stL (h : SqL K H1 a xs) (H' : Hp) (s : Same H1 H') : (Itl K a).stop xs.length H' := ⟨xs, s.seq h, Nat.le_refl _⟩
theorem yL (h : SqL K H1 a xs) (i : Nat) (H' : Hp) (x : V) (H2 : Hp) (s : Same H1 H') (_ : i < xs.length) (y : (Itl K a).yld i H' x H2) : H2 = H' ∧ xs[i]? = some x := ⟨y.1, y.2 xs (s.seq h)⟩
theorem goT (h : SqT K H1 a xs) (i : Nat) (H' : Hp) (s : Same H1 H') (hi : i < xs.length) : (Itt K a).go i H' := ⟨xs, xs[i], s.seqT h, List.getElem?_eq_getElem hi⟩
theorem stT (h : SqT K H1 a xs) (H' : Hp) (s : Same H1 H') : (Itt K a).stop xs.length H' := ⟨xs, s.seqT h, Nat.le_refl _⟩
theorem yT (h : SqT K H1 a xs) (i : Nat) (H' : Hp) (x : V) (H2 : Hp) (s : Same H1 H') (_ : i < xs.length) (y : (Itt K a).yld i H' x H2) : H2 = H' ∧ xs[i]? = some x := ⟨y.1, y.2 xs (s.seqT h)⟩
theorem goR {n : Nat} (i : Nat) (H' : Hp) (s : Same H1 H') (hi : i < ((List.range n).map fun (k : Nat) => V.int (0 + k)).length) : (Itr 0 n).go i H' := by
  show i < n
  simpa using hi
theorem stR {n : Nat} (H' : Hp) (s : Same H1 H') : (Itr 0 n).stop ((List.range n).map fun (k : Nat) => V.int (0 + k)).length H' := by
  show n ≤ _
  simp
theorem yR {n : Nat} (i : Nat) (H' : Hp) (x : V) (H2 : Hp) (s : Same H1 H') (hi : i < ((List.range n).map fun (k : Nat) => V.int (0 + k)).length) (y : (Itr 0 n).yld i H' x H2) : H2 = H' ∧ ((List.range n).map fun (k : Nat) => V.int (0 + k))[i]? = some x := ⟨y.1, by rw [List.getElem?_map, List.getElem?_range (by simpa using hi), y.2]; rfl⟩
end
theorem ix_tupK {X : Cx} {K : PySem.W.Frag} (hK : X.K = K) : IxR X (rIxT K) := hK ▸ ix_tup
theorem pgc2 {X : Cx} {N : List Str} {scope : Scope} {x y : Str} {px py pos : Pos} {k i j : Nat} (hc : X.calm = true) (hN : N.Nodup) (hi : N[i]? = some x) (hj : N[j]? = some y) (h1 : scope.names.lookup x = some .local) (h2 : scope.names.lookup y = some .local) :
    ∀ cl C s H fp pins, PG (cxComp X N scope cl C s H fp pins) (.Tuple [.Name x px, .Name y py] k pos) (gTup X.K 2 (gCons (gName i) (gCons (gName j) gNil))) := fun cl C s H fp pins =>
  pg_tup hc (pgs_cons (pg_name hN hi (Or.inl (c_loc h1)) (.inr (c_loc h1))) (pgs_cons (pg_name hN hj (Or.inl (c_loc h2)) (.inr (c_loc h2))) pgs_nil))
theorem op_catA {X : Cx} {K : PySem.W.Frag} (hK : X.K = K) : OpR X (binaryOp .Add) (fun x y H Q => ∃ a b xs ys, x = .ref a ∧ y = .ref b ∧ SqT K H a xs ∧ SqT K H b ys ∧ xs.length + ys.length ≤ sizeLine ∧ ∀ r H', Same H H' → SqT K H' r (xs ++ ys) → Q (.ref r) H') := by
  subst hK
  intro pins s σ H x y v u Q I rx ry h
  obtain ⟨a, b, xs, ys, rfl, rfl, ha, hb, hz, q⟩ := h
  by_cases hx : xs = []
  · subst hx
    cases rx
    cases ry
    obtain ⟨its, r1, p1, _⟩ := I.tuple ha
    obtain ⟨its2, r2, p2, _⟩ := I.tuple hb
    cases r1
    obtain ⟨⟨cls, dd, data, sl⟩, ho, hc, n, hd⟩ := id p1
    obtain ⟨⟨cls2, dd2, data2, sl2⟩, ho2, hc2, n2, hd2⟩ := id p2
    simp only at hc hd hc2 hd2
    subst hc hd hc2 hd2
    exact concat_meets ⟨_, ho, rfl⟩ ⟨_, ho2, rfl⟩ noFill_tuple_add seq_tuple_add PySem.F.slot_tuple_add PySem.F.entry_tuple_add (PySem.F.args_tuple_add_2 _ _)
      (tuple_addW0 a b ([] : List Value).toArray its2.toArray n n2 dd dd2 sl sl2 (by simp)) ⟨ho, ho2, ⟨.ref b, H, I, rfl, q b H (fun _ _ e => e) (by simpa using hb)⟩⟩
  · refine op_catT pins s σ H _ _ _ _ Q I rx ry ⟨a, b, xs, ys, rfl, rfl, ha, hb, hx, hz, fun e => ?_, fun _ p hp => ?_⟩
    · subst e
      exact q a H (fun _ _ e => e) (by simpa using ha)
    · refine q p _ (fun b o e => ?_) (SqT.of upd_same)
      rw [upd_ne (ne_of_none e hp)]
      exact e
theorem call_isiTup {X : Cx} {K : PySem.W.Frag} (hK : X.K = K) : CallR X (.builtin "isinstance") (fun xs H Q => ∃ p ys, xs = [.ref p, .ty "tuple"] ∧ SqT K H p ys ∧ Q (.bl true) H) := by
  subst hK
  intro pins s σ H xs us Q I r h
  obtain ⟨p, ys, rfl, hq, q⟩ := h
  obtain ⟨u, v, rfl, rx, rc⟩ := vals2 r
  cases (show u = Value.ref p from rx)
  cases (show v = Value.type "tuple" from rc)
  obtain ⟨its, rv, ⟨o, h1, h2, _⟩, hz⟩ := I.tuple hq
  exact PySem.W.kia_one (b := true) PySem.W.kitx_tuple I.kIn ⟨o, h1, h2⟩ rfl (fun z => nomatch z) fun tk => ⟨.bl true, H, I.tok tk, rfl, q⟩
end L2


set_option Elab.async false
set_option linter.all false
set_option maxRecDepth 100000
set_option maxHeartbeats 4000000
namespace Pw
open PySem L2
seal PE PT PW PA PS PSs PG PGs PI PIf
def top (i : Nat) : Stmt := PySem.Challenge.pw_planwell_k04_sums.main.body.getD i (.Pass ⟨0, 0, 0, 0⟩)
abbrev s_greatest_divisor : Stmt := top 13
abbrev s_fraction : Stmt := top 14
abbrev s_plus : Stmt := top 15
abbrev s_times : Stmt := top 16
abbrev s_sign : Stmt := top 17
abbrev s_plain : Stmt := top 19
abbrev s_single : Stmt := top 20
abbrev s_pairs_of : Stmt := top 21
abbrev s_added : Stmt := top 22
abbrev s_scaled : Stmt := top 23
abbrev s_multiplied : Stmt := top 24
abbrev s_worth : Stmt := top 25
abbrev s_cell_at : Stmt := top 27
abbrev s_mixed : Stmt := top 28
abbrev s_whole : Stmt := top 29
abbrev s_shared : Stmt := top 30
abbrev s_number : Stmt := top 31
abbrev s_low : Stmt := top 32
abbrev s_part : Stmt := top 33
abbrev s_sum : Stmt := top 34
abbrev s_alike : Stmt := top 35
abbrev s_lplus : Stmt := top 36
abbrev s_ltimes : Stmt := top 37
abbrev s_of : Stmt := top 38
abbrev s_ladded : Stmt := top 39
abbrev s_lscaled : Stmt := top 40
abbrev s_is : Stmt := top 41
abbrev s_refused : Stmt := top 42
abbrev s_lmul : Stmt := top 43
abbrev s_lworth : Stmt := top 44
abbrev s_law : Stmt := top 45
structure DefAt (K : PySem.W.Frag) (mg : Str → Option Value) (x : Str) (st : Stmt) (f : Addr) (fd : FuncData) (ps : List Str) : Prop where
  F : Fun K x x st f fd
  b : Binds K fd ps []
  m : mg x = some (.ref f)
structure Blt (mg : Str → Option Value) : Prop where
  isinstance : mg "isinstance" = none
  int : mg "int" = none
  bool : mg "bool" = none
  tuple : mg "tuple" = none
  len : mg "len" = none
  abs : mg "abs" = none
  dict : mg "dict" = none
  list : mg "list" = none
  range : mg "range" = none
  enumerate : mg "enumerate" = none
  sorted : mg "sorted" = none
  max : mg "max" = none
  all : mg "all" = none
inductive Kind (H : Hp) : V → Prop where
  | non : Kind H .non
  | bl (b : Bool) : Kind H (.bl b)
  | int (i : Int) : Kind H (.int i)
  | str (x : Str) : Kind H (.str x)
  | lst {a : Addr} {xs : List V} (e : H a = some (.lst xs)) : Kind H (.ref a)
  | tup {a : Addr} {xs : List V} (e : H a = some (.tup xs)) : Kind H (.ref a)
  | dK {a : Addr} {kvs : List (Key × V)} (e : H a = some (.dK kvs)) : Kind H (.ref a)
def isIntV : V → Bool
  | .int _ => true
  | _ => false
theorem Kind.look {K : PySem.W.Frag} {H : Hp} {x : V} (k : Kind H x) : ∃ t b1 b2, TyX K H x t ∧ PySem.W.kitOne K t (.type "int") = some b1 ∧ PySem.W.kitOne K t (.type "bool") = some b2 ∧ (b1 && !b2) = isIntV x := by
  cases k with
  | non => exact ⟨_, false, false, .of .non, by kernel_rfl, by kernel_rfl, rfl⟩
  | bl b => exact ⟨_, true, true, .of (.bl b), by kernel_rfl, by kernel_rfl, rfl⟩
  | int i => exact ⟨_, true, false, .of (.int i), by kernel_rfl, by kernel_rfl, rfl⟩
  | str z => exact ⟨_, false, false, .of (.str z), by kernel_rfl, by kernel_rfl, rfl⟩
  | lst e => exact ⟨_, false, false, .of (.lst e), by kernel_rfl, by kernel_rfl, rfl⟩
  | tup e => exact ⟨_, false, false, .of (.tup e), by kernel_rfl, by kernel_rfl, rfl⟩
  | dK e => exact ⟨_, false, false, .of (.dK e), by kernel_rfl, by kernel_rfl, rfl⟩
def BIG : Nat := 2 ^ 8000
theorem lt_big {n k : Nat} (h : n < 2 ^ k) (hk : k ≤ 8000) : n < BIG := Nat.lt_of_lt_of_le h (Nat.pow_le_pow_right (by decide) hk)
theorem log2_of {n : Nat} (h : n < BIG) : n.log2 < 9000 := by
  rcases Nat.eq_zero_or_pos n with h0 | hp
  · rw [h0]; decide
  · have := (Nat.log2_lt (Nat.ne_of_gt hp)).mpr h
    omega
def gd (a b : Int) : Int := (Int.gcd a b : Int)
theorem gd_step {a b : Int} (ha : 0 ≤ a) (hb : 0 < b) : gd b (Int.fmod a b) = gd a b := by
  unfold gd
  rw [Int.fmod_eq_emod_of_nonneg _ (by omega)]
  obtain ⟨n, rfl⟩ := Int.eq_ofNat_of_zero_le ha
  obtain ⟨m, rfl⟩ := Int.eq_ofNat_of_zero_le (Int.le_of_lt hb)
  have e : ((n : Int) % (m : Int)) = ((n % m : Nat) : Int) := rfl
  rw [e]
  show ((Nat.gcd m (n % m) : Nat) : Int) = ((Nat.gcd n m : Nat) : Int)
  rw [Nat.gcd_comm n m, Nat.gcd_rec m n, Nat.gcd_comm]
theorem gd_zero {a : Int} (ha : 0 ≤ a) : gd a 0 = a := by
  unfold gd; rw [Int.gcd_zero_right]; omega
theorem gd_pos {a b : Int} (hb : 0 < b) : 0 < gd a b := by
  unfold gd
  have : 0 < Int.gcd a b := Int.gcd_pos_of_ne_zero_right a (by omega)
  omega
theorem gd_dvd_l (a b : Int) : gd a b ∣ a := Int.gcd_dvd_left ..
theorem gd_dvd_r (a b : Int) : gd a b ∣ b := Int.gcd_dvd_right ..
theorem gd_le {a b : Int} (hb : 0 < b) : gd a b ≤ b := Int.le_of_dvd hb (gd_dvd_r a b)
theorem fdiv_mul {a g : Int} (hg : 0 < g) (h : g ∣ a) : Int.fdiv a g * g = a := by
  rw [Int.fdiv_eq_ediv_of_nonneg _ (by omega)]
  exact Int.ediv_mul_cancel h
theorem gd_neg_l (a b : Int) : gd (-a) b = gd a b := by
  unfold gd; rw [Int.neg_gcd]
theorem gd_abs (a b : Int) : gd (if a < 0 then -a else a) b = gd a b := by
  split
  · exact gd_neg_l a b
  · rfl
theorem gd_mul {a b m : Int} (hm : 0 ≤ m) : gd (a * m) (b * m) = gd a b * m := by
  unfold gd
  rw [Int.gcd_mul_right]
  have : (m.natAbs : Int) = m := by omega
  rw [← this]; simp
theorem low {t b g : Int} (hb : 0 < b) (hg : g = gd t b) :
    0 < g ∧ 1 ≤ Int.fdiv b g ∧ Int.fdiv t g * b = t * Int.fdiv b g ∧ gd (Int.fdiv t g) (Int.fdiv b g) = 1 := by
  have g0 : 0 < g := hg ▸ gd_pos hb
  have ht := fdiv_mul g0 (hg ▸ gd_dvd_l t b)
  have hbb := fdiv_mul g0 (hg ▸ gd_dvd_r t b)
  generalize Int.fdiv t g = x at *
  generalize Int.fdiv b g = y at *
  refine ⟨g0, ?_, ?_, ?_⟩
  · rcases (by omega : 1 ≤ y ∨ y ≤ 0) with h | h
    · exact h
    · have := Int.mul_nonpos_of_nonpos_of_nonneg h (Int.le_of_lt g0)
      omega
  · rw [← ht, ← hbb]
    rw [Int.mul_assoc x g y, Int.mul_comm g y]
  · have := gd_mul (a := x) (b := y) (Int.le_of_lt g0)
    rw [ht, hbb, ← hg] at this
    have : (gd x y - 1) * g = 0 := by rw [Int.sub_mul, ← this]; omega
    rcases Int.mul_eq_zero.mp this with h | h
    · omega
    · omega
def ft (t b : Int) : Int := if b < 0 then Int.fdiv (-t) (gd (-t) (-b)) else Int.fdiv t (gd t b)
def fb (t b : Int) : Int := if b < 0 then Int.fdiv (-b) (gd (-t) (-b)) else Int.fdiv b (gd t b)
theorem frac_low {t b : Int} (hb : b ≠ 0) : 1 ≤ fb t b ∧ ft t b * b = t * fb t b ∧ gd (ft t b) (fb t b) = 1 := by
  unfold ft fb
  by_cases h : b < 0
  · rw [if_pos h, if_pos h]
    obtain ⟨_, a1, a2, a3⟩ := low (t := -t) (b := -b) (by omega) rfl
    refine ⟨a1, ?_, a3⟩
    have e1 : Int.fdiv (-t) (gd (-t) (-b)) * -b = -(Int.fdiv (-t) (gd (-t) (-b)) * b) := Int.mul_neg _ _
    have e2 : -t * Int.fdiv (-b) (gd (-t) (-b)) = -(t * Int.fdiv (-b) (gd (-t) (-b))) := Int.neg_mul _ _
    rw [e1, e2] at a2
    omega
  · rw [if_neg h, if_neg h]
    obtain ⟨_, a1, a2, a3⟩ := low (t := t) (b := b) (by omega) rfl
    exact ⟨a1, a2, a3⟩
theorem gd_log {t b : Int} (hb : 0 < b) (h : b.natAbs < BIG) : (gd t b).natAbs.log2 < 9000 := by
  refine log2_of (Nat.lt_of_le_of_lt ?_ h)
  have h1 := gd_le (a := t) hb
  have h2 := gd_pos (a := t) hb
  omega
theorem abs_nonneg (a : Int) : 0 ≤ (if a < 0 then -a else a) := by split <;> omega
theorem same_new {H : Hp} {p : Addr} (h : H p = none) (o : HO) : Same H (upd H p o) := fun b u q => by rw [upd_ne (ne_of_none q h)]; exact q
theorem Same.refl' {H : Hp} : Same H H := fun _ _ e => e
structure BadF (K : PySem.W.Frag) (mg : Str → Option Value) (C : Addr) : Prop where
  m : mg "BadFraction" = some (.ref C)
  e : PySem.W.excIn K C veB "ValueError.__new__" = true
structure DefD (K : PySem.W.Frag) (mg : Str → Option Value) (x : Str) (st : Stmt) (dV : Value) (f : Addr) (fd : FuncData) (ps : List Str) (ds : List Value) : Prop where
  F : FunD K x x st dV f fd
  b : Binds K fd ps []
  d : Binds K fd ps ds
  v : Vals [.int 1] ds
  m : mg x = some (.ref f)
theorem fdiv_abs {t g : Int} (hg : 0 < g) (h : g ∣ t) : (Int.fdiv t g).natAbs ≤ t.natAbs := by
  have e := fdiv_mul hg h
  generalize Int.fdiv t g = q at *
  subst e
  rw [Int.natAbs_mul]
  exact Nat.le_mul_of_pos_right _ (by omega)
theorem ft_abs {t b : Int} (hb : b ≠ 0) : (ft t b).natAbs ≤ t.natAbs := by
  unfold ft
  split
  · have := fdiv_abs (gd_pos (a := -t) (b := -b) (by omega)) (gd_dvd_l (-t) (-b))
    rw [Int.natAbs_neg] at this
    exact this
  · exact fdiv_abs (gd_pos (by omega)) (gd_dvd_l t b)
theorem fb_abs {t b : Int} (hb : b ≠ 0) : (fb t b).natAbs ≤ b.natAbs := by
  unfold fb
  split
  · have := fdiv_abs (gd_pos (a := -t) (b := -b) (by omega)) (gd_dvd_r (-t) (-b))
    rw [Int.natAbs_neg] at this
    exact this
  · exact fdiv_abs (gd_pos (by omega)) (gd_dvd_r t b)
theorem clsIn_of {K : PySem.W.Frag} {C : Addr} {bmB : List Value} {newId : String} (q : PySem.W.excIn K C bmB newId = true) : (PySem.W.clsIn K C).isSome = true := by
  unfold PySem.W.excIn at q
  unfold PySem.W.clsIn
  split at q
  · rename_i dd cd sl ho
    rw [ho]; rfl
  · cases q
theorem pick6 (m : Int) : ∃ v : Int, atI ([V.int 10, V.int 10, V.int 1000, V.int ((10 : Int) ^ (6 : Int).toNat), V.int ((10 : Int) ^ (9 : Int).toNat), V.int ((10 : Int) ^ (30 : Int).toNat)] : List V) (m % 6) = some (.int v) ∧ 0 < v ∧ v ≤ 1000000000000000000000000000000 := by
  have h0 := Int.emod_nonneg m (show (6 : Int) ≠ 0 by decide)
  have h1 := Int.emod_lt_of_pos m (show (0 : Int) < 6 by decide)
  rcases (by omega : m % 6 = 0 ∨ m % 6 = 1 ∨ m % 6 = 2 ∨ m % 6 = 3 ∨ m % 6 = 4 ∨ m % 6 = 5) with e | e | e | e | e | e <;> rw [e]
  · exact ⟨10, rfl, by decide, by decide⟩
  · exact ⟨10, rfl, by decide, by decide⟩
  · exact ⟨1000, rfl, by decide, by decide⟩
  · exact ⟨1000000, rfl, by decide, by decide⟩
  · exact ⟨1000000000, rfl, by decide, by decide⟩
  · exact ⟨1000000000000000000000000000000, rfl, by decide, by decide⟩
theorem pick2 (m : Int) (x y : V) : ∃ v, atI ([x, y] : List V) (m % 2) = some v ∧ (v = x ∨ v = y) := by
  rcases (by omega : m % 2 = 0 ∨ m % 2 = 1) with e | e <;> rw [e]
  · exact ⟨x, rfl, .inl rfl⟩
  · exact ⟨y, rfl, .inr rfl⟩
theorem boot_ve : bootBuiltins "ValueError" = some (.type "ValueError") := by decide +kernel
abbrev Fq := Int × Int
def Red (a : Fq) : Prop := 1 ≤ a.2 ∧ gd a.1 a.2 = 1
def Fb (k : Nat) (a : Fq) : Prop := a.1.natAbs < 2 ^ k ∧ a.2.natAbs < 2 ^ k
def mkF (t b : Int) : Fq := (ft t b, fb t b)
def plF (a b : Fq) : Fq := mkF (a.1 * b.2 + b.1 * a.2) (a.2 * b.2)
def tiF (a b : Fq) : Fq := mkF (a.1 * b.1) (a.2 * b.2)
theorem Red.mul {a b : Fq} (ha : Red a) (hb : Red b) : a.2 * b.2 ≠ 0 := Int.mul_ne_zero (by have := ha.1; omega) (by have := hb.1; omega)
theorem Red.mul_pos {a b : Fq} (ha : Red a) (hb : Red b) : 0 < a.2 * b.2 := Int.mul_pos (by have := ha.1; omega) (by have := hb.1; omega)
theorem mk_red {t b : Int} (h : b ≠ 0) : Red (mkF t b) := by
  obtain ⟨a1, _, a3⟩ := frac_low (t := t) h
  exact ⟨a1, a3⟩
theorem Red.plus {a b : Fq} (ha : Red a) (hb : Red b) : Red (plF a b) := mk_red (ha.mul hb)
theorem Red.times {a b : Fq} (ha : Red a) (hb : Red b) : Red (tiF a b) := mk_red (ha.mul hb)
theorem mul_lt {a b : Int} {j k : Nat} (ha : a.natAbs < 2 ^ j) (hb : b.natAbs < 2 ^ k) : (a * b).natAbs < 2 ^ (j + k) := by
  rw [Int.natAbs_mul, Nat.pow_add]
  exact Nat.mul_lt_mul_of_lt_of_lt ha hb
theorem add_lt {a b : Int} {k : Nat} (ha : a.natAbs < 2 ^ k) (hb : b.natAbs < 2 ^ k) : (a + b).natAbs < 2 ^ (k + 1) := by
  have h1 := Int.natAbs_add_le a b
  rw [Nat.pow_succ]
  omega
theorem pow_up {n j k : Nat} (h : n < 2 ^ j) (hk : j ≤ k) : n < 2 ^ k := Nat.lt_of_lt_of_le h (Nat.pow_le_pow_right (by decide) hk)
theorem Fb.mono {j k : Nat} {a : Fq} (h : Fb j a) (hk : j ≤ k) : Fb k a := ⟨pow_up h.1 hk, pow_up h.2 hk⟩
theorem Fb.top {a b : Fq} {j k : Nat} (fa : Fb j a) (fb : Fb k b) : (a.1 * b.2 + b.1 * a.2).natAbs < 2 ^ (j + k + 1) := add_lt (mul_lt fa.1 fb.2) (by rw [Nat.add_comm j k]; exact mul_lt fb.1 fa.2)
theorem Fb.bot {a b : Fq} {j k : Nat} (fa : Fb j a) (fb : Fb k b) : (a.2 * b.2).natAbs < 2 ^ (j + k) := mul_lt fa.2 fb.2
theorem Fb.plus {a b : Fq} {j k : Nat} (ha : Red a) (hb : Red b) (fa : Fb j a) (fb : Fb k b) : Fb (j + k + 1) (plF a b) :=
  ⟨Nat.lt_of_le_of_lt (ft_abs (ha.mul hb)) (fa.top fb), Nat.lt_of_le_of_lt (fb_abs (ha.mul hb)) (pow_up (fa.bot fb) (Nat.le_succ _))⟩
theorem Fb.times {a b : Fq} {j k : Nat} (ha : Red a) (hb : Red b) (fa : Fb j a) (fb : Fb k b) : Fb (j + k) (tiF a b) :=
  ⟨Nat.lt_of_le_of_lt (ft_abs (ha.mul hb)) (mul_lt fa.1 fb.1), Nat.lt_of_le_of_lt (fb_abs (ha.mul hb)) (fa.bot fb)⟩
theorem red_zero {a : Fq} (h : Red a) (z : a.1 = 0) : a = (0, 1) := by
  obtain ⟨x, y⟩ := a
  obtain ⟨h1, h2⟩ := h
  have z' : x = 0 := z
  subst z'
  have h2' : gd 0 y = 1 := h2
  have h1' : 1 ≤ y := h1
  unfold gd at h2'
  rw [Int.gcd_zero_left] at h2'
  have : y = 1 := by omega
  rw [this]
theorem red_one : Red (0, 1) := ⟨by decide, by decide⟩
theorem red_neg : Red (-1, 1) := ⟨by decide, by decide⟩
theorem mk_zero {t b : Int} (h : b ≠ 0) : (mkF t b).1 = 0 ↔ t = 0 := by
  obtain ⟨a1, a2, _⟩ := frac_low (t := t) h
  show ft t b = 0 ↔ t = 0
  constructor
  · intro z
    rw [z, Int.zero_mul] at a2
    rcases Int.mul_eq_zero.mp a2.symm with q | q
    · exact q
    · omega
  · intro z
    rw [z, Int.zero_mul] at a2
    rcases Int.mul_eq_zero.mp a2 with q | q
    · rw [z]; exact q
    · exact absurd q h
theorem ti_zero {a b : Fq} (ha : Red a) (hb : Red b) : (tiF a b).1 = 0 ↔ a.1 = 0 ∨ b.1 = 0 := by
  unfold tiF
  rw [mk_zero (ha.mul hb)]
  exact Int.mul_eq_zero
theorem low_mk {t b : Int} (h : 0 < b) : (Int.fdiv t (gd t b), Int.fdiv b (gd t b)) = mkF t b := by
  unfold mkF ft fb
  rw [if_neg (by omega), if_neg (by omega)]
abbrev Pq := List (Int × Fq)
abbrev Su := Fq × Pq
def putP (d : Pq) (n : Int) (a : Fq) : Pq := if (d.any fun m => decide (m.1 = n)) = true then d.map (fun m => if m.1 = n then (m.1, a) else m) else d ++ [(n, a)]
def lookP (d : Pq) (n : Int) : Option Fq := (d.find? fun m => decide (m.1 = n)).map (·.2)
def ofP (d : Pq) : Pq := (PySem.W.sortI (d.map (·.1))).filterMap fun n => match lookP d n with | some a => if a.1 = 0 then none else some (n, a) | none => none
def addD (d : Pq) (ms : Pq) : Pq := ms.foldl (fun d m => putP d m.1 (plF ((lookP d m.1).getD (0, 1)) m.2)) d
def addP (s t : Su) : Su := (plF s.1 t.1, ofP (addD s.2 t.2))
def scaleP (s : Su) (a : Fq) : Su := if a.1 = 0 then ((0, 1), []) else (tiF s.1 a, s.2.map fun m => (m.1, tiF m.2 a))
def scaleD (d : Pq) (ms : Pq) (a : Fq) : Pq := ms.foldl (fun d m => putP d m.1 (tiF m.2 a)) d
def scaleL (s : Su) (a : Fq) : Su := (tiF s.1 a, ofP (scaleD [] s.2 a))
def worthP (s : Su) (vals : List Fq) : Fq := s.2.foldl (fun t m => plF t (tiF m.2 (vals.getD m.1.toNat (0, 1)))) s.1
def Gd (k : Nat) (a : Fq) : Prop := Red a ∧ Fb k a
structure Wf (s : Su) : Prop where
  c : Gd 101 s.1
  p : ∀ m ∈ s.2, Gd 101 m.2 ∧ m.2.1 ≠ 0 ∧ 0 ≤ m.1 ∧ m.1 < 60
  r : s.2.Pairwise fun a b => a.1 < b.1
  l : s.2.length ≤ 12
theorem Gd.mono {j k : Nat} {a : Fq} (h : Gd j a) (hk : j ≤ k) : Gd k a := ⟨h.1, h.2.mono hk⟩
theorem Gd.plus {j k : Nat} {a b : Fq} (ha : Gd j a) (hb : Gd k b) : Gd (j + k + 1) (plF a b) := ⟨ha.1.plus hb.1, ha.2.plus ha.1 hb.1 hb.2⟩
theorem Gd.times {j k : Nat} {a b : Fq} (ha : Gd j a) (hb : Gd k b) : Gd (j + k) (tiF a b) := ⟨ha.1.times hb.1, ha.2.times ha.1 hb.1 hb.2⟩
theorem gd_one {k : Nat} (h : 1 ≤ k) : Gd k (0, 1) := ⟨red_one, pow_up (j := 1) (by decide) h, pow_up (j := 1) (by decide) h⟩
theorem gd_neg {k : Nat} (h : 1 ≤ k) : Gd k (-1, 1) := ⟨red_neg, pow_up (j := 1) (by decide) h, pow_up (j := 1) (by decide) h⟩
theorem put_mem {d : Pq} {n : Int} {a : Fq} {m : Int × Fq} (h : m ∈ putP d n a) : m = (n, a) ∨ m ∈ d := by
  unfold putP at h
  split at h
  · obtain ⟨x, hx, e⟩ := List.mem_map.mp h
    split at e
    · rename_i q
      rw [q] at e
      exact .inl e.symm
    · exact .inr (e ▸ hx)
  · rcases List.mem_append.mp h with h | h
    · exact .inr h
    · exact .inl (by simpa using h)
theorem put_len (d : Pq) (n : Int) (a : Fq) : (putP d n a).length ≤ d.length + 1 := by
  unfold putP
  split
  · rw [List.length_map]; omega
  · rw [List.length_append]; simp
theorem look_mem {d : Pq} {n : Int} {a : Fq} (h : lookP d n = some a) : (n, a) ∈ d := by
  unfold lookP at h
  obtain ⟨m, e, rfl⟩ := Option.map_eq_some_iff.mp h
  have h1 := List.find?_some e
  have h2 := List.mem_of_find?_eq_some e
  have : m.1 = n := by simpa using h1
  rw [← this]
  exact h2
theorem put_new {d : Pq} {n : Int} (a : Fq) (h : n ∉ d.map (·.1)) : putP d n a = d ++ [(n, a)] := by
  unfold putP
  rw [if_neg]
  intro q
  obtain ⟨m, hm, e⟩ := List.any_eq_true.mp q
  exact h (List.mem_map.mpr ⟨m, hm, by simpa using e⟩)
theorem look_at {d : Pq} (hn : (d.map (·.1)).Nodup) {m : Int × Fq} (hm : m ∈ d) : lookP d m.1 = some m.2 := by
  induction d with
  | nil => cases hm
  | cons x d ih =>
    rw [List.map_cons, List.nodup_cons] at hn
    unfold lookP
    rw [List.find?_cons]
    rcases List.mem_cons.mp hm with rfl | hm
    · simp
    · have : ¬ x.1 = m.1 := fun z => hn.1 (z ▸ List.mem_map.mpr ⟨m, hm, rfl⟩)
      simp only [this, decide_false]
      exact ih hn.2 hm
theorem scaleD_new (a : Fq) : ∀ (ms d : Pq), ((d.map (·.1)) ++ ms.map (·.1)).Nodup → scaleD d ms a = d ++ ms.map fun m => (m.1, tiF m.2 a)
  | [], d, _ => by simp [scaleD]
  | m :: ms, d, h => by
    show scaleD (putP d m.1 (tiF m.2 a)) ms a = _
    have h' := h
    rw [List.map_cons, List.nodup_append] at h'
    have nm : m.1 ∉ d.map (·.1) := fun z => h'.2.2 _ z _ (List.mem_cons_self) rfl
    rw [put_new _ nm, scaleD_new a ms _ (by simpa [List.append_assoc] using h), List.map_cons, List.append_assoc]
    rfl
theorem filterMap_keys {d e : Pq} (h : ∀ m ∈ e, lookP d m.1 = some m.2 ∧ m.2.1 ≠ 0) : (e.map (·.1)).filterMap (fun n => match lookP d n with | some a => if a.1 = 0 then none else some (n, a) | none => none) = e := by
  induction e with
  | nil => rfl
  | cons m e ih =>
    obtain ⟨h1, h2⟩ := h m (.head _)
    rw [List.map_cons, List.filterMap_cons, h1]
    simp only [if_neg h2]
    rw [ih fun x hx => h x (.tail _ hx)]
theorem sort_rising {d : Pq} (h : d.Pairwise fun a b => a.1 < b.1) : PySem.W.sortI (d.map (·.1)) = d.map (·.1) := by
  refine (PySem.W.eq_sortI (List.Perm.refl _) ?_).symm
  rw [List.pairwise_map]
  exact h.imp fun h => Int.le_of_lt h
theorem rising_nodup {d : Pq} (h : d.Pairwise fun a b => a.1 < b.1) : (d.map (·.1)).Nodup := by
  rw [List.Nodup, List.pairwise_map]
  exact h.imp fun h => Int.ne_of_lt h
theorem ofP_same {d : Pq} (h : d.Pairwise fun a b => a.1 < b.1) (hz : ∀ m ∈ d, m.2.1 ≠ 0) : ofP d = d := by
  unfold ofP
  rw [sort_rising h]
  exact filterMap_keys fun m hm => ⟨look_at (rising_nodup h) hm, hz m hm⟩
theorem ofP_none {d : Pq} (hz : ∀ m ∈ d, m.2.1 = 0) : ofP d = [] := by
  unfold ofP
  rw [List.filterMap_eq_nil_iff]
  intro n _
  cases e : lookP d n with
  | none => rfl
  | some a =>
    have q : a.1 = 0 := hz _ (look_mem e)
    exact if_pos q
theorem scale_eq {s : Su} {a : Fq} (w : Wf s) (ha : Red a) : scaleL s a = scaleP s a := by
  have rs : s.2.map (fun m => (m.1, tiF m.2 a)) |>.Pairwise fun a b => a.1 < b.1 := by
    rw [List.pairwise_map]
    exact w.r
  have e1 : scaleD [] s.2 a = s.2.map fun m => (m.1, tiF m.2 a) := by
    rw [scaleD_new a s.2 [] (by simpa using rising_nodup w.r)]
    rfl
  unfold scaleL scaleP
  rw [e1]
  by_cases z : a.1 = 0
  · rw [if_pos z]
    have q := red_zero (w.c.1.times ha) ((ti_zero w.c.1 ha).mpr (.inr z))
    rw [q, ofP_none]
    intro m hm
    obtain ⟨x, hx, rfl⟩ := List.mem_map.mp hm
    exact (ti_zero (w.p x hx).1.1 ha).mpr (.inr z)
  · rw [if_neg z, ofP_same rs]
    intro m hm
    obtain ⟨x, hx, rfl⟩ := List.mem_map.mp hm
    exact fun q => ((ti_zero (w.p x hx).1.1 ha).mp q).elim (w.p x hx).2.1 z
section
variable {P : Program} {w : World} {K : PySem.W.Frag} {mg : Str → Option Value} {base : Heap} {f : Addr} {fd : FuncData}
def spWhole : Sp := fun vs H Q _ => ∃ x, vs = [x] ∧ Kind H x ∧ Q (.bl (isIntV x)) H
def spGd : Sp := fun vs H Q _ => ∃ a b : Int, vs = [.int a, .int b] ∧ 0 ≤ a ∧ 0 ≤ b ∧ Q (.int (gd a b)) H
theorem sc_greatest_divisor : FnScope ["one", "other", "rest"] ["one", "other"] (defScope s_greatest_divisor) := ⟨rfl, rfl, rfl, by decide +kernel, rfl, by decide +kernel, by decide +kernel⟩
theorem ok_greatest_divisor (F : Fun K "greatest_divisor" "greatest_divisor" s_greatest_divisor f fd) : FnOk P w K mg base CX0 1 f fd ["one", "other"] spGd := by
  refine F.ok sc_greatest_divisor (fun vs H Q E h => ?_) (fun cdv A outer s H vs Q E hr h => ?_)
  · obtain ⟨a, b, rfl, _⟩ := h
    rfl
  obtain ⟨a, b, rfl, ha, hb, q⟩ := h
  have nd := sc_greatest_divisor.nd
  refine ⟨_, pss_cons (ps_while PassesOwn.never (pt_cmpR op_ne (pv 1) pe_int (nomark _))
      (pss_cons (ps_set (i := 2) nd rfl (Or.inl rfl) (pe_op op_modN (pv 0) (pv 1)))
      (pss_cons (ps_set (i := 0) nd rfl (Or.inl rfl) (pv 1)) (pss_one (ps_set (i := 1) nd rfl (Or.inl rfl) (pv 2))))))
    (pss_one (ps_ret (pv 0))), ?_⟩
  refine ⟨fun m σ H' => H' = H ∧ ∃ (x y : Int) (z : Option V), σ = [some (.int x), some (.int y), z] ∧ 0 ≤ x ∧ 0 ≤ y ∧ gd x y = gd a b ∧ m = y.toNat, ⟨b.toNat, rfl, a, b, none, rfl, ha, hb, rfl, rfl⟩, ?_⟩
  rintro m σ H' ⟨rfl, x, y, z, rfl, hx, hy, eg, rfl⟩
  refine ⟨_, rfl, rfl, _, rfl, ?_⟩
  by_cases h0 : y = 0
  · subst h0
    refine iteN (neN rfl) ?_
    refine ⟨_, rfl, ?_⟩
    rw [gd_zero hx] at eg
    rw [eg]
    exact q
  · refine iteY (neY h0) ?_
    refine ⟨fun σ' H2 => H2 = H' ∧ σ' = [some (.int y), some (.int (x.fmod y)), some (.int (x.fmod y))], ?_, ?_⟩
    · rintro σ' H2 ⟨rfl, rfl⟩
      have yp : 0 < y := by omega
      have m1 := Int.fmod_nonneg_of_pos x yp
      have m2 := Int.fmod_lt_of_pos x yp
      exact ⟨(x.fmod y).toNat, by omega, rfl, y, x.fmod y, _, rfl, hy, m1, by rw [gd_step hx yp]; exact eg, rfl⟩
    · exact ⟨_, rfl, _, rfl, x, y, rfl, rfl, h0, _, rfl, _, rfl, rfl, rfl⟩
theorem sc_shared : FnScope ["_law_one", "_law_other", "_law_rest"] ["_law_one", "_law_other"] (defScope s_shared) := ⟨rfl, rfl, rfl, by decide +kernel, rfl, by decide +kernel, by decide +kernel⟩
theorem ok_shared (F : Fun K "_law_shared" "_law_shared" s_shared f fd) : FnOk P w K mg base CX0 1 f fd ["_law_one", "_law_other"] spGd := by
  refine F.ok sc_shared (fun vs H Q E h => ?_) (fun cdv A outer s H vs Q E hr h => ?_)
  · obtain ⟨a, b, rfl, _⟩ := h
    rfl
  obtain ⟨a, b, rfl, ha, hb, q⟩ := h
  have nd := sc_shared.nd
  refine ⟨_, pss_cons (ps_while PassesOwn.never (pt_cmpR op_gt (pv 1) pe_int (nomark _))
      (pss_cons (ps_set (i := 2) nd rfl (Or.inl rfl) (pe_op op_modN (pv 0) (pv 1)))
      (pss_cons (ps_set (i := 0) nd rfl (Or.inl rfl) (pv 1)) (pss_one (ps_set (i := 1) nd rfl (Or.inl rfl) (pv 2))))))
    (pss_one (ps_ret (pv 0))), ?_⟩
  refine ⟨fun m σ H' => H' = H ∧ ∃ (x y : Int) (z : Option V), σ = [some (.int x), some (.int y), z] ∧ 0 ≤ x ∧ 0 ≤ y ∧ gd x y = gd a b ∧ m = y.toNat, ⟨b.toNat, rfl, a, b, none, rfl, ha, hb, rfl, rfl⟩, ?_⟩
  rintro m σ H' ⟨rfl, x, y, z, rfl, hx, hy, eg, rfl⟩
  refine ⟨_, rfl, _, _, rfl, rfl, _, rfl, ?_⟩
  by_cases h0 : y = 0
  · subst h0
    refine iteN (decide_eq_false (by omega)) ?_
    refine ⟨_, rfl, ?_⟩
    rw [gd_zero hx] at eg
    rw [eg]
    exact q
  · have yp : 0 < y := by omega
    refine iteY (decide_eq_true yp) ?_
    refine ⟨fun σ' H2 => H2 = H' ∧ σ' = [some (.int y), some (.int (x.fmod y)), some (.int (x.fmod y))], ?_, ?_⟩
    · rintro σ' H2 ⟨rfl, rfl⟩
      have m1 := Int.fmod_nonneg_of_pos x yp
      have m2 := Int.fmod_lt_of_pos x yp
      exact ⟨(x.fmod y).toNat, by omega, rfl, y, x.fmod y, _, rfl, hy, m1, by rw [gd_step hx yp]; exact eg, rfl⟩
    · exact ⟨_, rfl, _, rfl, x, y, rfl, rfl, h0, _, rfl, _, rfl, rfl, rfl⟩
def spFracP (C : Addr) : Sp := fun vs H Q E => ∃ t b : Int, vs = [.int t, .int b] ∧ 0 ≤ b ∧ b.natAbs < BIG ∧ (b = 0 → E (.ref C) none H) ∧ (0 < b → ∀ p, H p = none → Q (.ref p) (upd H p (.tup [.int (Int.fdiv t (gd t b)), .int (Int.fdiv b (gd t b))])))
def spFrac (C : Addr) : Sp := fun vs H Q E => ∃ t b : Int, vs = [.int t, .int b] ∧ b.natAbs < BIG ∧ (b = 0 → E (.ref C) none H) ∧ (b ≠ 0 → ∀ p, H p = none → Q (.ref p) (upd H p (.tup [.int (ft t b), .int (fb t b)])))
theorem sc_fraction : FnScope ["top", "bottom", "divisor"] ["top", "bottom"] (defScope s_fraction) := ⟨rfl, rfl, rfl, by decide +kernel, rfl, by decide +kernel, by decide +kernel⟩
theorem ok_fractionP {fg C : Addr} {dg : FuncData} {dV : Value} (F : FunD K "fraction" "fraction" s_fraction dV f fd) (B : Blt mg) (G : DefAt K mg "greatest_divisor" s_greatest_divisor fg dg ["one", "other"]) (X : BadF K mg C) :
    FnOk P w K mg base (CXF P w) 2 f fd ["top", "bottom"] (spFracP C) := by
  have OG : FnOk P w K mg base (CXF P w) 1 fg dg ["one", "other"] spGd := (ok_greatest_divisor G.F).cxf _
  refine F.okX sc_fraction (fun vs H Q E h => ?_) (fun cdv A outer s H vs Q E hr h => ?_)
  · obtain ⟨t, b, rfl, _⟩ := h
    rfl
  obtain ⟨t, b, rfl, hb, hz, h0, h1⟩ := h
  have nd := sc_fraction.nd
  refine ⟨_, pss_cons (ps_if (pt_cmpR op_eq (pv 1) pe_int (nomark _)) (pss_one (ps_raise rfl raises_fn X.e rfl X.m (pa_cons pe_str pa_nil))) pss_nil)
    (pss_cons (ps_if (pt_cmpR op_lt (pv 1) pe_int (nomark _)) pss_never pss_nil)
    (pss_cons (ps_set (i := 2) nd rfl (Or.inl rfl) (pe_callS OG hr rfl G.m G.F.kp G.b .nil passes_fn (pa_cons (pe_callB call_abs rfl B.abs bt_abs (pa_cons (pv 0) pa_nil)) (pa_cons (pv 1) pa_nil))))
    (pss_one (ps_ret (pe_tup (pa_cons (pe_op op_fdivB (pv 0) (pv 2)) (pa_cons (pe_op op_fdivB (pv 1) (pv 2)) pa_nil))))))), ?_⟩
  refine ⟨_, rfl, rfl, _, rfl, ?_⟩
  by_cases z : b = 0
  · subst z
    refine iteT ?_
    exact ⟨by show 1 ≤ sizeLine; decide, h0 rfl⟩
  · refine iteN (eqN z) ?_
    refine ⟨_, rfl, _, _, rfl, rfl, _, rfl, ?_⟩
    refine iteN (decide_eq_false (by omega)) ?_
    have bp : 0 < b := by omega
    refine ⟨_, rfl, t, rfl, _, rfl, _, b, rfl, abs_nonneg t, hb, ?_⟩
    rw [gd_abs]
    have g0 := gd_pos (a := t) bp
    have gl := gd_log (t := t) bp hz
    refine ⟨_, rfl, _, rfl, t, _, rfl, rfl, ⟨by omega, gl⟩, _, rfl, _, rfl, b, _, rfl, rfl, ⟨by omega, gl⟩, (by show 2 ≤ sizeLine; decide), fun p hp => h1 bp p hp⟩
theorem ok_fraction {fg C : Addr} {dg : FuncData} {dV : Value} {ds : List Value} (D : DefD K mg "fraction" s_fraction dV f fd ["top", "bottom"] ds) (B : Blt mg) (G : DefAt K mg "greatest_divisor" s_greatest_divisor fg dg ["one", "other"]) (X : BadF K mg C) :
    FnOk P w K mg base (CXF P w) 3 f fd ["top", "bottom"] (spFrac C) := by
  have OG : FnOk P w K mg base (CXF P w) 2 fg dg ["one", "other"] spGd := ((ok_greatest_divisor G.F).cxf _).mono (by decide)
  have OP : FnOk P w K mg base (CXF P w) 2 f fd ["top", "bottom"] (spFracP C) := ok_fractionP D.F B G X
  refine D.F.okX sc_fraction (fun vs H Q E h => ?_) (fun cdv A outer s H vs Q E hr h => ?_)
  · obtain ⟨t, b, rfl, _⟩ := h
    rfl
  obtain ⟨t, b, rfl, hz, h0, h1⟩ := h
  have nd := sc_fraction.nd
  refine ⟨_, pss_cons (ps_if (pt_cmpR op_eq (pv 1) pe_int (nomark _)) (pss_one (ps_raise rfl raises_fn X.e rfl X.m (pa_cons pe_str pa_nil))) pss_nil)
    (pss_cons (ps_if (pt_cmpR op_lt (pv 1) pe_int (nomark _)) (pss_one (ps_ret (pe_callS OP hr rfl D.m D.F.kp D.b .nil passes_fn (pa_cons (pe_un un_neg (pv 0)) (pa_cons (pe_un un_neg (pv 1)) pa_nil))))) pss_nil)
    (pss_cons (ps_set (i := 2) nd rfl (Or.inl rfl) (pe_callS OG hr rfl G.m G.F.kp G.b .nil passes_fn (pa_cons (pe_callB call_abs rfl B.abs bt_abs (pa_cons (pv 0) pa_nil)) (pa_cons (pv 1) pa_nil))))
    (pss_one (ps_ret (pe_tup (pa_cons (pe_op op_fdivB (pv 0) (pv 2)) (pa_cons (pe_op op_fdivB (pv 1) (pv 2)) pa_nil))))))), ?_⟩
  refine ⟨_, rfl, rfl, _, rfl, ?_⟩
  by_cases z : b = 0
  · subst z
    refine iteT ?_
    exact ⟨by show 1 ≤ sizeLine; decide, h0 rfl⟩
  · refine iteN (eqN z) ?_
    refine ⟨_, rfl, _, _, rfl, rfl, _, rfl, ?_⟩
    have h1' := h1 z
    unfold ft fb at h1'
    by_cases n : b < 0
    · rw [if_pos n, if_pos n] at h1'
      refine iteY (decide_eq_true n) ?_
      exact ⟨_, rfl, t, rfl, _, rfl, b, rfl, -t, -b, rfl, by omega, by omega, fun q => by omega, fun _ => h1'⟩
    · rw [if_neg n, if_neg n] at h1'
      refine iteN (decide_eq_false n) ?_
      have bp : 0 < b := by omega
      refine ⟨_, rfl, t, rfl, _, rfl, _, b, rfl, abs_nonneg t, by omega, ?_⟩
      rw [gd_abs]
      have g0 := gd_pos (a := t) bp
      have gl := gd_log (t := t) bp hz
      refine ⟨_, rfl, _, rfl, t, _, rfl, rfl, ⟨by omega, gl⟩, _, rfl, _, rfl, b, _, rfl, rfl, ⟨by omega, gl⟩, (by show 2 ≤ sizeLine; decide), fun p hp => h1' p hp⟩
def spCell (K : PySem.W.Frag) : Sp := fun vs H Q _ => ∃ (a : Addr) (ns : List Int) (k : Int), vs = [.ref a, .int k] ∧ SqL K H a (ns.map V.int) ∧ 0 ≤ k ∧ ∀ n : Int, Q (.int n) H
theorem sc_cell_at : FnScope ["_law_script", "_law_k"] ["_law_script", "_law_k"] (defScope s_cell_at) := ⟨rfl, rfl, rfl, by decide +kernel, rfl, by decide +kernel, by decide +kernel⟩
theorem ok_cell_at (F : Fun K "_law_cell_at" "_law_cell_at" s_cell_at f fd) (B : Blt mg) : FnOk P w K mg base CX0 1 f fd ["_law_script", "_law_k"] (spCell K) := by
  refine F.ok sc_cell_at (fun vs H Q E h => ?_) (fun cdv A outer s H vs Q E hr h => ?_)
  · obtain ⟨a, ns, k, rfl, _⟩ := h
    rfl
  obtain ⟨a, ns, k, rfl, hS, hk, q⟩ := h
  refine ⟨_, pss_cons (ps_if (pt_cmpR op_lt (pv 1) (pe_callB call_len_seq rfl B.len bt_len (pa_cons (pv 0) pa_nil)) (nomark _)) (pss_one (ps_ret (pe_ix ix_list (pv 0) (pv 1) (fun _ _ => rfl)))) pss_nil) (pss_one (ps_ret pe_int)), ?_⟩
  refine ⟨_, rfl, _, rfl, a, _, rfl, .inl hS, _, _, rfl, rfl, _, rfl, ?_⟩
  refine ite2 (fun c => ?_) (fun c => ?_)
  · have c' : k < (((ns.map V.int).length : Nat) : Int) := of_decide_eq_true c
    rw [List.length_map] at c'
    have hk' : k.toNat < ns.length := by omega
    have ek : k = ((k.toNat : Nat) : Int) := by omega
    have z : atI (ns.map V.int) ((k.toNat : Nat) : Int) = some (.int ns[k.toNat]) := atI_nat (by rw [List.getElem?_map, List.getElem?_eq_getElem hk'] <;> rfl)
    rw [← ek] at z
    exact ⟨_, rfl, _, rfl, a, _, _, _, rfl, rfl, hS, z, q _⟩
  · exact q 0
def spMixed : Sp := fun vs H Q _ => ∃ c k : Int, vs = [.int c, .int k] ∧ 0 ≤ k ∧ k ≤ 1000 ∧ ∀ m : Int, 0 ≤ m → m < 2147483629 → Q (.int m) H
theorem sc_mixed : FnScope ["_law_cell", "_law_k"] ["_law_cell", "_law_k"] (defScope s_mixed) := ⟨rfl, rfl, rfl, by decide +kernel, rfl, by decide +kernel, by decide +kernel⟩
theorem ok_mixed (F : Fun K "_law_mixed" "_law_mixed" s_mixed f fd) : FnOk P w K mg base CX0 1 f fd ["_law_cell", "_law_k"] spMixed := by
  refine F.ok sc_mixed (fun vs H Q E h => ?_) (fun cdv A outer s H vs Q E hr h => ?_)
  · obtain ⟨c, k, rfl, _⟩ := h
    rfl
  obtain ⟨c, k, rfl, k0, k1, q⟩ := h
  refine ⟨_, pss_one (ps_ret (pe_op op_mod (pe_op op_add (pe_op op_mul (pe_op op_add (pe_op op_mod (pv 0) pe_int) pe_int) (pe_op op_add (pe_op op_mul (pe_op op_mul pe_int (pv 1)) (pv 1)) pe_int)) (pe_op op_mul (pe_op op_fdiv (pv 0) pe_int) pe_int)) pe_int)), ?_⟩
  refine ⟨_, rfl, c, _, rfl, rfl, (by show (0 : Int) < 1000003; decide), _, _, rfl, rfl, ?_⟩
  refine ⟨_, rfl, _, k, rfl, rfl, .inl ⟨by decide, by decide⟩, _, rfl, _, k, rfl, rfl, .inr ⟨by omega, by omega⟩, _, _, rfl, rfl, ?_⟩
  have b1 := Int.emod_nonneg c (show (1000003 : Int) ≠ 0 by decide)
  have b2 := Int.emod_lt_of_pos c (show (0 : Int) < 1000003 by decide)
  refine ⟨_, _, rfl, rfl, .inl ⟨by omega, by omega⟩, _, rfl, c, _, rfl, rfl, ⟨by decide, by decide⟩, _, _, rfl, rfl, .inr ⟨by decide, by decide⟩, _, _, rfl, rfl, _, _, rfl, rfl, (by show (0 : Int) < 2147483629; decide), ?_⟩
  exact q _ (Int.emod_nonneg _ (by decide)) (Int.emod_lt_of_pos _ (by decide))
def spNum : Sp := fun vs H Q _ => ∃ c k : Int, vs = [.int c, .int k] ∧ 0 ≤ k ∧ k ≤ 100 ∧ ∀ (n : Int) (H' : Hp), n.natAbs < 1000000000000000000000000000000 → Same H H' → Q (.int n) H'
theorem sc_number : FnScope ["_law_cell", "_law_k", "_law_first", "_law_long", "_law_size"] ["_law_cell", "_law_k"] (defScope s_number) := ⟨rfl, rfl, rfl, by decide +kernel, rfl, by decide +kernel, by decide +kernel⟩
theorem ok_number {fm : Addr} {dm : FuncData} (F : Fun K "_law_number" "_law_number" s_number f fd) (M : DefAt K mg "_law_mixed" s_mixed fm dm ["_law_cell", "_law_k"]) : FnOk P w K mg base CX0 2 f fd ["_law_cell", "_law_k"] spNum := by
  have OM : FnOk P w K mg base CX0 1 fm dm ["_law_cell", "_law_k"] spMixed := ok_mixed M.F
  refine F.ok sc_number (fun vs H Q E h => ?_) (fun cdv A outer s H vs Q E hr h => ?_)
  · obtain ⟨c, k, rfl, _⟩ := h
    rfl
  obtain ⟨c, k, rfl, k0, k1, q⟩ := h
  have nd := sc_number.nd
  refine ⟨_, pss_cons (ps_set (i := 2) nd rfl (Or.inl rfl) (pe_call OM hr rfl M.m M.F.kp M.b .nil pass0 (pa_cons (pv 0) (pa_cons (pv 1) pa_nil))))
    (pss_cons (ps_set (i := 3) nd rfl (Or.inl rfl) (pe_op op_mul (pe_op op_mul (pe_op op_mul (pe_op op_fdiv (pv 2) pe_int) (pe_call OM hr rfl M.m M.F.kp M.b .nil pass0 (pa_cons (pv 0) (pa_cons (pe_op op_add (pv 1) pe_int) pa_nil))))
        (pe_call OM hr rfl M.m M.F.kp M.b .nil pass0 (pa_cons (pv 0) (pa_cons (pe_op op_add (pv 1) pe_int) pa_nil)))) (pe_call OM hr rfl M.m M.F.kp M.b .nil pass0 (pa_cons (pv 0) (pa_cons (pe_op op_add (pv 1) pe_int) pa_nil)))))
    (pss_cons (ps_set (i := 4) nd rfl (Or.inl rfl) (pe_op op_mod (pe_op op_fdiv (pv 3) pe_int) (pe_ix ix_list (pe_lst (pa_cons pe_int (pa_cons pe_int (pa_cons pe_int (pa_cons (pe_op op_pow pe_int pe_int) (pa_cons (pe_op op_pow pe_int pe_int) (pa_cons (pe_op op_pow pe_int pe_int) pa_nil)))))))
        (pe_op op_mod (pv 2) pe_int) (fun _ _ => rfl))))
    (pss_one (ps_ret (pe_ix ix_list (pe_lst (pa_cons (pv 4) (pa_cons (pe_un un_neg (pv 4)) pa_nil))) (pe_op op_mod (pe_op op_fdiv (pv 2) pe_int) pe_int) (fun _ _ => rfl)))))), ?_⟩
  refine ⟨_, rfl, _, rfl, c, k, rfl, k0, by omega, fun m1 a1 b1 => ?_⟩
  refine ⟨_, rfl, m1, _, rfl, rfl, ⟨by decide, by decide⟩, _, rfl, _, rfl, k, _, rfl, rfl, c, k + 1, rfl, by omega, by omega, fun m2 a2 b2 => ?_⟩
  refine ⟨_, m2, rfl, rfl, .inr ⟨by omega, by omega⟩, _, rfl, _, rfl, k, _, rfl, rfl, c, k + 2, rfl, by omega, by omega, fun m3 a3 b3 => ?_⟩
  refine ⟨_, m3, rfl, rfl, .inr ⟨by omega, by omega⟩, _, rfl, _, rfl, k, _, rfl, rfl, c, k + 3, rfl, by omega, by omega, fun m4 a4 b4 => ?_⟩
  refine ⟨_, m4, rfl, rfl, .inr ⟨by omega, by omega⟩, ?_⟩
  refine ⟨_, rfl, _, _, rfl, rfl, ⟨by decide, by decide⟩, ?_⟩
  refine ⟨_, _, rfl, rfl, ⟨by decide, by decide, by decide⟩, _, _, rfl, rfl, ⟨by decide, by decide, by decide⟩, _, _, rfl, rfl, ⟨by decide, by decide, by decide⟩, (by show 6 ≤ sizeLine; decide), fun l hl => ?_⟩
  obtain ⟨v, ev, v0, v1⟩ := pick6 m1
  refine ⟨_, rfl, m1, _, rfl, rfl, (by show (0 : Int) < 6; decide), l, _, _, _, rfl, rfl, SqL.of upd_same, ev, _, v, rfl, rfl, v0, ?_⟩
  obtain ⟨r, hr'⟩ : ∃ r, (m1 / 12 * m2 * m3 * m4 / 7) % v = r := ⟨_, rfl⟩
  have r0 : 0 ≤ r := hr' ▸ Int.emod_nonneg _ (by omega)
  have r1 : r < v := hr' ▸ Int.emod_lt_of_pos _ v0
  have s1 : Same H (upd H l (.lst [V.int 10, V.int 10, V.int 1000, V.int ((10 : Int) ^ (6 : Int).toNat), V.int ((10 : Int) ^ (9 : Int).toNat), V.int ((10 : Int) ^ (30 : Int).toNat)])) := same_new hl _
  refine ⟨_, rfl, _, rfl, r, (by show V.int ((m1 / 12 * m2 * m3 * m4 / 7) % v) = V.int r; rw [hr']), (by show 2 ≤ sizeLine; decide), fun l2 hl2 => ?_⟩
  obtain ⟨u, eu, hu⟩ := pick2 (m1 / 6) (.int ((m1 / 12 * m2 * m3 * m4 / 7) % v)) (.int (-r))
  refine ⟨_, rfl, m1, _, rfl, rfl, ⟨by decide, by decide⟩, _, _, rfl, rfl, (by show (0 : Int) < 2; decide), l2, _, _, u, rfl, rfl, SqL.of upd_same, eu, ?_⟩
  rcases hu with rfl | rfl
  · rw [hr']
    exact q r _ (by omega) (s1.trans (same_new hl2 _))
  · exact q (-r) _ (by omega) (s1.trans (same_new hl2 _))
theorem sc_whole : FnScope ["_law_found"] ["_law_found"] (defScope s_whole) := ⟨rfl, rfl, rfl, by decide +kernel, rfl, by decide +kernel, by decide +kernel⟩
theorem ok_whole (F : Fun K "_law_whole" "_law_whole" s_whole f fd) (B : Blt mg) : FnOk P w K mg base CX0 1 f fd ["_law_found"] spWhole := by
  refine F.ok sc_whole (fun vs H Q E h => ?_) (fun cdv A outer s H vs Q E hr h => ?_)
  · obtain ⟨x, rfl, _⟩ := h
    rfl
  obtain ⟨x, rfl, k, q⟩ := h
  refine ⟨_, pss_one (ps_ret (pe_and (pe_callB (call_isi (K := K) rfl) rfl B.isinstance bt_isinstance (pa_cons (pv 0) (pa_cons (pe_bltn (v := .ty "int") rfl B.int bt_int rfl) pa_nil)))
    (pe_one (pe_not (pe_callB (call_isi (K := K) rfl) rfl B.isinstance bt_isinstance (pa_cons (pv 0) (pa_cons (pe_bltn (v := .ty "bool") rfl B.bool bt_bool rfl) pa_nil))))))), ?_⟩
  obtain ⟨t, b1, b2, ty, e1, e2, eb⟩ := k.look (K := K)
  refine ⟨x, rfl, x, .ty "int", t, b1, rfl, rfl, ty, e1, b1, rfl, ?_⟩
  cases b1 with
  | false =>
    refine iteF ?_
    rw [← eb] at q
    exact q
  | true =>
    refine iteT ?_
    refine ⟨x, rfl, x, .ty "bool", t, b2, rfl, rfl, ty, e2, b2, rfl, ?_⟩
    rw [← eb] at q
    exact q
end
end Pw


set_option Elab.async false
set_option linter.all false
set_option maxRecDepth 100000
set_option maxHeartbeats 4000000
namespace Pw
open PySem L2
seal PE PT PW PA PS PSs PG PGs PI PIf
def IsF (K : PySem.W.Frag) (H : Hp) (v : V) (a : Fq) : Prop := ∃ p, v = .ref p ∧ SqT K H p [.int a.1, .int a.2]
def Pr (K : PySem.W.Frag) (H : Hp) (v : V) (m : Int × Fq) : Prop := ∃ q fv, v = .ref q ∧ SqT K H q [.int m.1, fv] ∧ IsF K H fv m.2
def Ps (K : PySem.W.Frag) (H : Hp) (v : V) (ps : Pq) : Prop := ∃ p vs, v = .ref p ∧ H p = some (.tup vs) ∧ Paired (Pr K H) vs ps
def Sm (K : PySem.W.Frag) (H : Hp) (v : V) (s : Su) : Prop := ∃ p cv pv, v = .ref p ∧ H p = some (.tup [cv, pv]) ∧ IsF K H cv s.1 ∧ Ps K H pv s.2
def DR (K : PySem.W.Frag) (H : Hp) : List (Key × V) → Pq → Prop := Paired fun (kv : Key × V) (m : Int × Fq) => kv.1 = Sum.inl m.1 ∧ IsF K H kv.2 m.2
section
variable {K : PySem.W.Frag} {H H' : Hp} {v : V} {a : Fq} {m : Int × Fq} {ps d : Pq} {s : Su} {kvs : List (Key × V)} {D : Addr} {ys : List V}
theorem IsF.same (e : Same H H') (h : IsF K H v a) : IsF K H' v a := let ⟨p, x, y⟩ := h; ⟨p, x, e.seqT y⟩
theorem Pr.same (e : Same H H') (h : Pr K H v m) : Pr K H' v m := let ⟨q, fv, x, y, z⟩ := h; ⟨q, fv, x, e.seqT y, z.same e⟩
theorem Ps.same (e : Same H H') (h : Ps K H v ps) : Ps K H' v ps := let ⟨p, vs, x, y, z⟩ := h; ⟨p, vs, x, e _ _ y, Paired.mapP z fun _ _ q => q.same e⟩
theorem Sm.same (e : Same H H') (h : Sm K H v s) : Sm K H' v s := let ⟨p, cv, pv, x, y, z, u⟩ := h; ⟨p, cv, pv, x, e _ _ y, z.same e, u.same e⟩
theorem DR.same (e : Same H H') (h : DR K H kvs d) : DR K H' kvs d := Paired.mapP h fun _ _ q => ⟨q.1, q.2.same e⟩
theorem IsF.hid (e : H D = some (.lst ys)) (h : IsF K H v a) : IsF K (hid D H) v a := let ⟨p, x, y⟩ := h; ⟨p, x, y.hid e⟩
theorem Pr.hid (e : H D = some (.lst ys)) (h : Pr K H v m) : Pr K (L2.hid D H) v m := let ⟨q, fv, x, y, z⟩ := h; ⟨q, fv, x, y.hid e, z.hid e⟩
theorem IsF.new {p : Addr} (hp : H p = none) : IsF K (upd H p (.tup [.int a.1, .int a.2])) (.ref p) a := ⟨p, rfl, SqT.of upd_same⟩
theorem DR.length (h : DR K H kvs d) : kvs.length = d.length := Paired.length h
theorem DR.keys (h : DR K H kvs d) : kvs.map (·.1) = (d.map (·.1)).map Sum.inl := by
  unfold DR at h
  induction h with
  | nil => rfl
  | cons r t ih => rw [List.map_cons, List.map_cons, List.map_cons, ih, r.1]
theorem DR.any (h : DR K H kvs d) (n : Int) : (kvs.any fun kv => decide (kv.1 = (Sum.inl n : Key))) = d.any fun m => decide (m.1 = n) := by
  unfold DR at h
  induction h with
  | nil => rfl
  | @cons x y xs ys r t ih =>
    rw [List.any_cons, List.any_cons, ih, r.1]
    congr 1
    by_cases z : y.1 = n
    · rw [decide_eq_true z, decide_eq_true (by rw [z])]
    · rw [decide_eq_false z, decide_eq_false (fun q => z (Sum.inl.inj q))]
theorem DR.put {n : Int} (h : DR K H kvs d) (hv : IsF K H v a) : DR K H (putK kvs (Sum.inl n) v) (putP d n a) := by
  unfold putK putP
  rw [h.any n]
  by_cases z : (d.any fun m => decide (m.1 = n)) = true
  · rw [if_pos z, if_pos z]
    clear z
    unfold DR at h ⊢
    induction h with
    | nil => exact .nil
    | @cons x y xs ys r t ih =>
      rw [List.map_cons, List.map_cons]
      refine .cons ?_ ih
      by_cases q : y.1 = n
      · rw [if_pos q, if_pos (by rw [r.1, q])]
        exact ⟨r.1, hv⟩
      · rw [if_neg q, if_neg (fun e => q (Sum.inl.inj (r.1.symm.trans e)))]
        exact r
  · rw [if_neg z, if_neg z]
    exact Paired.snoc h ⟨rfl, hv⟩
theorem DR.val (h : DR K H kvs d) (n : Int) : (∃ v a, valV kvs (Sum.inl n) = some v ∧ lookP d n = some a ∧ IsF K H v a) ∨ (valV kvs (Sum.inl n) = none ∧ lookP d n = none) := by
  unfold DR at h
  induction h with
  | nil => exact .inr ⟨rfl, rfl⟩
  | @cons x y xs ys r t ih =>
    by_cases q : y.1 = n
    · refine .inl ⟨x.2, y.2, valV_pos (by rw [r.1, q]), ?_, r.2⟩
      unfold lookP
      rw [List.find?_cons, decide_eq_true q]
      rfl
    · have e : lookP (y :: ys) n = lookP ys n := by
        unfold lookP
        rw [List.find?_cons, decide_eq_false q]
      rw [valV_neg (fun e => q (Sum.inl.inj (r.1.symm.trans e))), e]
      exact ih
theorem pairs_of_ps {vs : List V} {ps : Pq} (h : Paired (Pr K H) vs ps) : ∃ kvs, PairsV K H vs kvs ∧ DR K H kvs ps := by
  induction h with
  | nil => exact ⟨[], .nil, .nil⟩
  | @cons x m vs ps r t ih =>
    obtain ⟨kvs, h1, h2⟩ := ih
    obtain ⟨q, fv, rfl, hq, hf⟩ := r
    exact ⟨(Sum.inl m.1, fv) :: kvs, .cons ⟨q, rfl, hq⟩ h1, .cons ⟨rfl, hf⟩ h2⟩
theorem merge_new : ∀ (more acc : List (Key × V)), ((acc.map (·.1)) ++ more.map (·.1)).Nodup → mergeK acc more = acc ++ more
  | [], acc, _ => by simp [mergeK]
  | x :: more, acc, h => by
    show mergeK (putK acc x.1 x.2) more = _
    have h' := h
    rw [List.map_cons, List.nodup_append] at h'
    have nm : valV acc x.1 = none := by
      unfold valV
      rw [Option.map_eq_none_iff, List.find?_eq_none]
      intro kv hkv e
      exact h'.2.2 _ (List.mem_map.mpr ⟨kv, hkv, rfl⟩) _ List.mem_cons_self (by simpa using e)
    rw [putK_new _ nm, merge_new more _ (by simpa [List.append_assoc] using h), List.append_assoc]
    rfl
theorem DR.merge (h : DR K H kvs d) (hn : (d.map (·.1)).Nodup) : mergeK [] kvs = kvs := by
  rw [merge_new kvs [] ?_]
  · rfl
  · rw [List.map_nil, List.nil_append, h.keys, List.Nodup, List.pairwise_map]
    exact hn.imp fun q e => q (Sum.inl.inj e)
end
theorem mf {x y : Int} {j k : Nat} (h : j + k ≤ 4000) (hx : x.natAbs < 2 ^ j) (hy : y.natAbs < 2 ^ k) : CMulF x y := ⟨j + k, by omega, pow_up hx (Nat.le_add_right _ _), pow_up hy (Nat.le_add_left _ _)⟩
def spBin (K : PySem.W.Frag) (g : Fq → Fq → Fq) : Sp := fun vs H Q _ => ∃ u v a b j k, vs = [u, v] ∧ IsF K H u a ∧ IsF K H v b ∧ Gd j a ∧ Gd k b ∧ j + k ≤ 4000 ∧ ∀ r H', Same H H' → IsF K H' r (g a b) → Q r H'
section
variable {P : Program} {w : World} {K : PySem.W.Frag} {mg : Str → Option Value} {base : Heap} {f : Addr} {fd : FuncData}
theorem sc_plus : FnScope ["one", "other"] ["one", "other"] (defScope s_plus) := ⟨rfl, rfl, rfl, by decide +kernel, rfl, by decide +kernel, by decide +kernel⟩
theorem ok_plus {ff fg C : Addr} {df dg : FuncData} {dV : Value} {ds : List Value} (F : Fun K "plus" "plus" s_plus f fd) (B : Blt mg) (D : DefD K mg "fraction" s_fraction dV ff df ["top", "bottom"] ds) (G : DefAt K mg "greatest_divisor" s_greatest_divisor fg dg ["one", "other"]) (X : BadF K mg C) :
    FnOk P w K mg base (CXF P w) 4 f fd ["one", "other"] (spBin K plF) := by
  have OF : FnOk P w K mg base (CXF P w) 3 ff df ["top", "bottom"] (spFrac C) := ok_fraction D B G X
  refine F.okX sc_plus (fun vs H Q E h => ?_) (fun cdv A outer s H vs Q E hr h => ?_)
  · obtain ⟨_, _, _, _, _, _, rfl, _⟩ := h
    rfl
  obtain ⟨_, _, a, b, j, k, rfl, ⟨p, rfl, hp⟩, ⟨q, rfl, hq⟩, ga, gb, hjk, h1⟩ := h
  have hkj : k + j ≤ 4000 := by omega
  refine ⟨_, pss_one (ps_ret (pe_callS OF hr rfl D.m D.F.kp D.b .nil passes_fn (pa_cons (pe_op op_add (pe_op op_mulF (pe_ix ix_tup (pv 0) (pe_int) (fun _ _ => rfl)) (pe_ix ix_tup (pv 1) (pe_int) (fun _ _ => rfl))) (pe_op op_mulF (pe_ix ix_tup (pv 1) (pe_int) (fun _ _ => rfl)) (pe_ix ix_tup (pv 0) (pe_int) (fun _ _ => rfl)))) (pa_cons (pe_op op_mulF (pe_ix ix_tup (pv 0) (pe_int) (fun _ _ => rfl)) (pe_ix ix_tup (pv 1) (pe_int) (fun _ _ => rfl))) pa_nil)))), ?_⟩
  exact ⟨_, rfl, p, _, _, _, rfl, rfl, hp, rfl, _, rfl, q, _, _, _, rfl, rfl, hq, rfl, _, _, rfl, rfl, mf hjk ga.2.1 gb.2.2, _, rfl, q, _, _, _, rfl, rfl, hq, rfl, _, rfl, p, _, _, _, rfl, rfl, hp, rfl, _, _, rfl, rfl, mf hkj gb.2.1 ga.2.2, _, _, rfl, rfl, _, rfl, p, _, _, _, rfl, rfl, hp, rfl, _, rfl, q, _, _, _, rfl, rfl, hq, rfl, _, _, rfl, rfl, mf hjk ga.2.2 gb.2.2, _, _, rfl, lt_big (ga.2.bot gb.2) (by omega), fun z => absurd z (ga.1.mul gb.1), fun _ p' hp' => h1 _ _ (same_new hp' _) (IsF.new (a := plF a b) hp')⟩
theorem sc_times : FnScope ["one", "other"] ["one", "other"] (defScope s_times) := ⟨rfl, rfl, rfl, by decide +kernel, rfl, by decide +kernel, by decide +kernel⟩
theorem ok_times {ff fg C : Addr} {df dg : FuncData} {dV : Value} {ds : List Value} (F : Fun K "times" "times" s_times f fd) (B : Blt mg) (D : DefD K mg "fraction" s_fraction dV ff df ["top", "bottom"] ds) (G : DefAt K mg "greatest_divisor" s_greatest_divisor fg dg ["one", "other"]) (X : BadF K mg C) :
    FnOk P w K mg base (CXF P w) 4 f fd ["one", "other"] (spBin K tiF) := by
  have OF : FnOk P w K mg base (CXF P w) 3 ff df ["top", "bottom"] (spFrac C) := ok_fraction D B G X
  refine F.okX sc_times (fun vs H Q E h => ?_) (fun cdv A outer s H vs Q E hr h => ?_)
  · obtain ⟨_, _, _, _, _, _, rfl, _⟩ := h
    rfl
  obtain ⟨_, _, a, b, j, k, rfl, ⟨p, rfl, hp⟩, ⟨q, rfl, hq⟩, ga, gb, hjk, h1⟩ := h
  have hkj : k + j ≤ 4000 := by omega
  refine ⟨_, pss_one (ps_ret (pe_callS OF hr rfl D.m D.F.kp D.b .nil passes_fn (pa_cons (pe_op op_mulF (pe_ix ix_tup (pv 0) (pe_int) (fun _ _ => rfl)) (pe_ix ix_tup (pv 1) (pe_int) (fun _ _ => rfl))) (pa_cons (pe_op op_mulF (pe_ix ix_tup (pv 0) (pe_int) (fun _ _ => rfl)) (pe_ix ix_tup (pv 1) (pe_int) (fun _ _ => rfl))) pa_nil)))), ?_⟩
  exact ⟨_, rfl, p, _, _, _, rfl, rfl, hp, rfl, _, rfl, q, _, _, _, rfl, rfl, hq, rfl, _, _, rfl, rfl, mf hjk ga.2.1 gb.2.1, _, rfl, p, _, _, _, rfl, rfl, hp, rfl, _, rfl, q, _, _, _, rfl, rfl, hq, rfl, _, _, rfl, rfl, mf hjk ga.2.2 gb.2.2, _, _, rfl, lt_big (ga.2.bot gb.2) (by omega), fun z => absurd z (ga.1.mul gb.1), fun _ p' hp' => h1 _ _ (same_new hp' _) (IsF.new (a := tiF a b) hp')⟩
def spSign (K : PySem.W.Frag) : Sp := fun vs H Q _ => ∃ v a, vs = [v] ∧ IsF K H v a ∧ Q (.int (if 0 < a.1 then 1 else if a.1 < 0 then -1 else 0)) H
theorem sgn_zero (x : Int) : ((if 0 < x then 1 else if x < 0 then -1 else 0 : Int) = 0) ↔ x = 0 := by
  split
  · omega
  · split <;> omega
theorem sc_sign : FnScope ["one"] ["one"] (defScope s_sign) := ⟨rfl, rfl, rfl, by decide +kernel, rfl, by decide +kernel, by decide +kernel⟩
theorem ok_sign (F : Fun K "sign" "sign" s_sign f fd) : FnOk P w K mg base CX0 1 f fd ["one"] (spSign K) := by
  refine F.ok sc_sign (fun vs H Q E h => ?_) (fun cdv A outer s H vs Q E hr h => ?_)
  · obtain ⟨_, _, rfl, _⟩ := h
    rfl
  obtain ⟨_, a, rfl, ⟨p, rfl, hp⟩, k⟩ := h
  refine ⟨_, pss_cons (ps_if (pt_cmpR op_gt (pe_ix ix_tup (pv 0) (pe_int) (fun _ _ => rfl)) (pe_int) (nomark _)) (pss_one (ps_ret (pe_int))) (pss_nil))
    (pss_cons (ps_if (pt_cmpR op_lt (pe_ix ix_tup (pv 0) (pe_int) (fun _ _ => rfl)) (pe_int) (nomark _)) (pss_one (ps_ret (pe_un un_neg (pe_int)))) (pss_nil))
    (pss_one (ps_ret (pe_int)))), ?_⟩
  refine ⟨_, rfl, p, _, _, _, rfl, rfl, hp, rfl, _, _, rfl, rfl, _, rfl, ?_⟩
  by_cases c : 0 < a.1
  · rw [if_pos c] at k
    exact iteY (decide_eq_true c) k
  rw [if_neg c] at k
  refine iteN (decide_eq_false c) ?_
  refine ⟨_, rfl, p, _, _, _, rfl, rfl, hp, rfl, _, _, rfl, rfl, _, rfl, ?_⟩
  by_cases d : a.1 < 0
  · rw [if_pos d] at k
    exact iteY (decide_eq_true d) ⟨_, rfl, k⟩
  rw [if_neg d] at k
  exact iteN (decide_eq_false d) k
end
end Pw


set_option Elab.async false
set_option linter.all false
set_option maxRecDepth 100000
set_option maxHeartbeats 4000000
namespace Pw
open PySem L2
seal PE PT PW PA PS PSs PG PGs PI PIf
structure Cst (K : PySem.W.Frag) (mg : Str → Option Value) (aN aO : Addr) : Prop where
  mN : mg "NOUGHT" = some (.ref aN)
  mO : mg "ONE" = some (.ref aO)
  fN : ∀ H, SqT K H aN [.int 0, .int 1]
  fO : ∀ H, SqT K H aO [.int 1, .int 1]
section
variable {K : PySem.W.Frag} {H H' : Hp} {v : V} {a : Fq} {d : Pq} {kvs kvs' : List (Key × V)} {p : Addr} {xs : List V}
theorem SqT.updD {dA : Addr} {o : HO} (e : H dA = some (.dK kvs)) (h : SqT K H p xs) : SqT K (upd H dA o) p xs := by
  rcases h with (h | ⟨u, h⟩) | h
  · refine .inl (.inl ?_)
    rw [upd_ne (ne_of h e (fun z => nomatch z))]; exact h
  · refine .inl (.inr ⟨u, ?_⟩)
    rw [upd_ne (ne_of h e (fun z => nomatch z))]; exact h
  · exact .inr h
theorem IsF.updD {dA : Addr} {o : HO} (e : H dA = some (.dK kvs)) (h : IsF K H v a) : IsF K (upd H dA o) v a := let ⟨p, x, y⟩ := h; ⟨p, x, SqT.updD e y⟩
theorem DR.updD {dA : Addr} {o : HO} (e : H dA = some (.dK kvs')) (h : DR K H kvs d) : DR K (upd H dA o) kvs d := Paired.mapP h fun _ _ q => ⟨q.1, q.2.updD e⟩
end
theorem addD_snoc (d ms : Pq) (m : Int × Fq) : addD d (ms ++ [m]) = putP (addD d ms) m.1 (plF ((lookP (addD d ms) m.1).getD (0, 1)) m.2) := by
  unfold addD
  rw [List.foldl_append]
  rfl
theorem scaleD_snoc (d ms : Pq) (a : Fq) (m : Int × Fq) : scaleD d (ms ++ [m]) a = putP (scaleD d ms a) m.1 (tiF m.2 a) := by
  unfold scaleD
  rw [List.foldl_append]
  rfl
theorem take_next {α : Type} {l : List α} {i : Nat} {x : α} (h : l[i]? = some x) : l.take (i + 1) = l.take i ++ [x] := by
  rw [List.take_succ, h]
  rfl
section
variable {P : Program} {w : World} {K : PySem.W.Frag} {mg : Str → Option Value} {base : Heap} {f : Addr} {fd : FuncData}
def spPlain (K : PySem.W.Frag) : Sp := fun vs H Q _ => ∃ v a, vs = [v] ∧ IsF K H v a ∧ ∀ r H', Same H H' → Sm K H' r (a, []) → Q r H'
theorem sc_plain : FnScope ["one"] ["one"] (defScope s_plain) := ⟨rfl, rfl, rfl, by decide +kernel, rfl, by decide +kernel, by decide +kernel⟩
theorem lk_plain_one : (defScope s_plain).names.lookup ("one" : Str) = some .local := by decide +kernel
theorem ok_plain (F : Fun K "plain" "plain" s_plain f fd) : FnOk P w K mg base CX0 1 f fd ["one"] (spPlain K) := by
  refine F.ok sc_plain (fun vs H Q E h => ?_) (fun cdv A outer s H vs Q E hr h => ?_)
  · obtain ⟨_, _, rfl, _⟩ := h
    rfl
  obtain ⟨v, a, rfl, hv, q⟩ := h
  refine ⟨_, pss_one (ps_ret (pe_tup (pa_Name (pv 0 rfl (Or.inl lk_plain_one)) (pa_Tuple (pe_tup pa_nil) pa_nil)))), ?_⟩
  refine ⟨_, rfl, Nat.zero_le _, fun t ht => ⟨(by show 2 ≤ sizeLine; decide), fun p hp => ?_⟩⟩
  have s1 : Same H (upd H t (.tup [])) := same_new ht _
  have s2 : Same (upd H t (.tup [])) (upd (upd H t (.tup [])) p (.tup [v, .ref t])) := same_new hp _
  exact q _ _ (s1.trans s2) ⟨p, v, .ref t, rfl, upd_same, (hv.same s1).same s2, t, [], rfl, s2 _ _ upd_same, .nil⟩
def spSingle (K : PySem.W.Frag) : Sp := fun vs H Q _ => ∃ n : Int, vs = [.int n] ∧ ∀ r H', Same H H' → Sm K H' r ((0, 1), [(n, (1, 1))]) → Q r H'
theorem sc_single : FnScope ["number"] ["number"] (defScope s_single) := ⟨rfl, rfl, rfl, by decide +kernel, rfl, by decide +kernel, by decide +kernel⟩
theorem lk_single_number : (defScope s_single).names.lookup ("number" : Str) = some .local := by decide +kernel
theorem lk_single_NOUGHT : (defScope s_single).names.lookup ("NOUGHT" : Str) = some .globalImplicit := by decide +kernel
theorem lk_single_ONE : (defScope s_single).names.lookup ("ONE" : Str) = some .globalImplicit := by decide +kernel
theorem ok_single {aN aO : Addr} (F : Fun K "single" "single" s_single f fd) (C : Cst K mg aN aO) : FnOk P w K mg base CX0 1 f fd ["number"] (spSingle K) := by
  refine F.ok sc_single (fun vs H Q E h => ?_) (fun cdv A outer s H vs Q E hr h => ?_)
  · obtain ⟨_, rfl, _⟩ := h
    rfl
  obtain ⟨n, rfl, q⟩ := h
  refine ⟨_, pss_one (ps_ret (pe_tup (pa_Name (pe_glob (v := .ref aN) lk_single_NOUGHT C.mN rfl) (pa_Tuple (pe_tup (pa_Tuple (pe_tup (pa_Name (pv 0 rfl (Or.inl lk_single_number)) (pa_Name (pe_glob (v := .ref aO) lk_single_ONE C.mO rfl) pa_nil))) pa_nil)) pa_nil)))), ?_⟩
  refine ⟨_, rfl, (by show 2 ≤ sizeLine; decide), fun p1 h1 => ?_⟩
  refine ⟨(by show 1 ≤ sizeLine; decide), fun p2 h2 => ?_⟩
  refine ⟨(by show 2 ≤ sizeLine; decide), fun p3 h3 => ?_⟩
  have s1 : Same H (upd H p1 (.tup [.int n, .ref aO])) := same_new h1 _
  have e1 : upd H p1 (.tup [.int n, .ref aO]) p1 = some (.tup [.int n, .ref aO]) := upd_same
  generalize upd H p1 (.tup [.int n, .ref aO]) = H1 at s1 e1 h2 h3 ⊢
  have s2 : Same H1 (upd H1 p2 (.tup [.ref p1])) := same_new h2 _
  have e2 : upd H1 p2 (.tup [.ref p1]) p2 = some (.tup [.ref p1]) := upd_same
  generalize upd H1 p2 (.tup [.ref p1]) = H2 at s2 e2 h3 ⊢
  have s3 : Same H2 (upd H2 p3 (.tup [.ref aN, .ref p2])) := same_new h3 _
  exact q _ _ (s1.trans (s2.trans s3)) ⟨p3, _, _, rfl, upd_same, ⟨aN, rfl, C.fN _⟩, p2, _, rfl, s3 _ _ e2, .cons ⟨p1, _, rfl, SqT.of (s3 _ _ (s2 _ _ e1)), aO, rfl, C.fO _⟩ .nil⟩
def selP (D : Pq) (n : Int) : Option (Int × Fq) := match lookP D n with | some a => if a.1 = 0 then none else some (n, a) | none => none
theorem ofP_sel (D : Pq) : ofP D = (PySem.W.sortI (D.map (·.1))).filterMap (selP D) := rfl
def spPairs (K : PySem.W.Frag) : Sp := fun vs H Q _ => ∃ d kvs D, vs = [.ref d] ∧ H d = some (.dK kvs) ∧ DR K H kvs D ∧ D.length < 64 ∧ ∀ r H', Same H H' → Ps K H' r (ofP D) → Q r H'
theorem sort_mem {D : Pq} {i : Nat} {n : Int} (h : (PySem.W.sortI (D.map (·.1)))[i]? = some n) : ∃ a, lookP D n = some a := by
  have hm := (PySem.W.sortI_perm (D.map (·.1))).mem_iff.mp (List.mem_of_getElem? h)
  obtain ⟨m, hm', rfl⟩ := List.mem_map.mp hm
  cases e : lookP D m.1 with
  | some a => exact ⟨a, rfl⟩
  | none =>
    unfold lookP at e
    rw [Option.map_eq_none_iff, List.find?_eq_none] at e
    exact absurd (by simp) (e m hm')
theorem sel_next {D : Pq} {l : List Int} {i : Nat} {n : Int} (h : l[i]? = some n) : (l.take (i + 1)).filterMap (selP D) = (l.take i).filterMap (selP D) ++ (selP D n).toList := by
  rw [take_next h, List.filterMap_append]
  cases e : selP D n <;> simp [List.filterMap_cons, e]
theorem sc_pairs_of : FnScope ["parts"] ["parts"] (defScope s_pairs_of) := ⟨rfl, rfl, rfl, by decide +kernel, rfl, by decide +kernel, by decide +kernel⟩
theorem lk_pairs_of_parts : (defScope s_pairs_of).names.lookup ("parts" : Str) = some .cell := by decide +kernel
theorem lk_pairs_of_sorted : (defScope s_pairs_of).names.lookup ("sorted" : Str) = some .globalImplicit := by decide +kernel
theorem lk_pairs_of_tuple : (defScope s_pairs_of).names.lookup ("tuple" : Str) = some .globalImplicit := by decide +kernel
theorem ok_pairs_of {fDS : Addr} {dDS : FuncData} (F : Fun K "pairs_of" "pairs_of" s_pairs_of f fd) (B : Blt mg) (DS : DefAt K mg "sign" s_sign fDS dDS ["one"]) : FnOk P w K mg base CX0 2 f fd ["parts"] (spPairs K) := by
  have OS : FnOk P w K mg base CX0 1 fDS dDS ["one"] (spSign K) := ok_sign DS.F
  refine F.ok sc_pairs_of (fun vs H Q E h => ?_) (fun cdv A outer s H vs Q E hr h => ?_)
  · obtain ⟨_, _, _, rfl, _⟩ := h
    rfl
  obtain ⟨d, kvs, D, rfl, hd, dr, hl, q⟩ := h
  have nd := sc_pairs_of.nd
  have hu := hu_of hr
  refine ⟨_, pss_one (ps_ret (pe_callTy call_tuple_of lk_pairs_of_tuple B.tuple bt_tuple (pa_ListComp (pe_comp rfl (frees_of ["number"] [("parts", 0)] ["parts"] (by decide +kernel)) (visC s_pairs_of (by decide +kernel)) (by decide +kernel) rfl (by decide +kernel) (fun y hy => PySem.mem_of_lookup hy) (pi_list (pe_callB (call_sortedK rfl) lk_pairs_of_sorted B.sorted bt_sorted (pa_Name (pv 0 rfl (Or.inr (Or.inl lk_pairs_of_parts))) pa_nil))) (fun cl C s H fp pins => pg_name (i := 0) (show (["number", "parts"] : List Str).Nodup by decide +kernel) rfl (Or.inl (c_loc (by decide +kernel))) (.inr (c_loc (by decide +kernel)))) (fun cl C s H fp pins => pif_one (pt_cmpR op_ne (pe_call OS hr (c_gl (by decide +kernel)) DS.m DS.F.kp DS.b .nil pass0 (pa_Subscript (pe_dget hu (pv 1 rfl (c_free (by decide +kernel))) (pv 0 rfl (c_vloc (by decide +kernel))) (fun _ _ => rfl)) pa_nil)) (pe_int) (nomark _))) (fun cl C s H fp pins => pe_tup (pa_Name (pv 0 rfl (c_vloc (by decide +kernel))) (pa_Subscript (pe_dget hu (pv 1 rfl (c_free (by decide +kernel))) (pv 0 rfl (c_vloc (by decide +kernel))) (fun _ _ => rfl)) pa_nil)))) pa_nil))), ?_⟩
  refine ⟨_, rfl, d, kvs, D.map (·.1), rfl, .inl hd, dr.keys, by rw [dr.length]; exact hl, fun l hl' => ?_⟩
  refine ⟨l, rfl, ⟨_, SqL.of upd_same⟩, fun Dl hDl => ?_⟩
  have s1 : Same H (upd H l (.lst ((PySem.W.sortI (D.map (·.1))).map V.int))) := same_new hl' _
  have el : upd H l (.lst ((PySem.W.sortI (D.map (·.1))).map V.int)) l = some (.lst ((PySem.W.sortI (D.map (·.1))).map V.int)) := upd_same
  generalize upd H l (.lst ((PySem.W.sortI (D.map (·.1))).map V.int)) = H1 at s1 el hDl ⊢
  have ln : (PySem.W.sortI (D.map (·.1))).length = D.length := by rw [(PySem.W.sortI_perm (D.map (·.1))).length_eq, List.length_map]
  refine comp_same (J := Itl K l) (xs := (PySem.W.sortI (D.map (·.1))).map V.int) hDl (by rw [List.length_map, ln, PySem.sizeLine_eq]; omega) (goL (SqL.of el)) (stL (SqL.of el)) (yL (SqL.of el))
    (fun i ys σ H' => (∃ z, σ = [z, some (.ref d)]) ∧ Paired (Pr K H') ys (((PySem.W.sortI (D.map (·.1))).take i).filterMap (selP D))) ⟨⟨_, rfl⟩, .nil⟩ ?_ ?_
  · rintro i x ys σ H' hx ⟨⟨z, rfl⟩, pr⟩ eD sm Ry Rn hY hN
    rw [List.getElem?_map] at hx
    obtain ⟨n, hn, rfl⟩ := Option.map_eq_some_iff.mp hx
    obtain ⟨a, ha⟩ := sort_mem hn
    have s1' : Same H H' := s1.trans (sm.trans hid_le)
    have hd' := s1' _ _ hd
    have dr' := dr.same s1'
    obtain ⟨v, a', ev, ea, hv⟩ := (dr'.val n).resolve_right (fun z => by rw [z.2] at ha; cases ha)
    rw [ha] at ea
    cases ea
    have g : DGet H' d (.int n) (some v) := by
      have := DGet.k (k := Sum.inl n) hd'
      rw [ev] at this
      exact this
    refine ⟨_, rfl, _, rfl, d, v, rfl, g, v, a, rfl, hv, rfl, _, rfl, ?_⟩
    have nx := sel_next (D := D) hn
    have es : selP D n = if a.1 = 0 then none else some (n, a) := by unfold selP; rw [ha]
    by_cases z0 : a.1 = 0
    · refine iteN (neN ((sgn_zero a.1).mpr z0)) ?_
      refine hN _ _ Same.refl' ⟨⟨_, rfl⟩, ?_⟩
      rw [nx, es, if_pos z0]
      simpa using pr
    · refine iteY (neY (fun e => z0 ((sgn_zero a.1).mp e))) ?_
      refine ⟨_, rfl, _, rfl, _, rfl, d, v, rfl, g, (by show 2 ≤ sizeLine; decide), fun p hp => hY _ _ _ (same_new hp _) ⟨⟨_, rfl⟩, ?_⟩⟩
      rw [nx, es, if_neg z0]
      have s2 : Same H' (upd H' p (.tup [.int n, v])) := same_new hp _
      refine Paired.snoc (Paired.mapP pr fun _ _ q => q.same (hid_same s2)) ?_
      exact Pr.hid (s2 _ _ eD) ⟨p, v, rfl, SqT.of upd_same, hv.same s2⟩
  · rintro ys σ H' ⟨_, pr⟩ eD sm
    rw [List.length_map, List.take_length] at pr
    refine ⟨Dl, ys, rfl, .inl ⟨SqL.of eD, fun r hr' => ?_⟩⟩
    have s2 : Same H' (upd H' r (.tup ys)) := same_new hr' _
    refine q _ _ ((s1.trans (sm.trans hid_le)).trans s2) ⟨r, ys, rfl, upd_same, ?_⟩
    rw [ofP_sel]
    exact Paired.mapP pr fun _ _ q => (q.same hid_le).same s2
end
end Pw


set_option Elab.async false
set_option linter.all false
set_option maxRecDepth 100000
set_option maxHeartbeats 4000000
namespace Pw
open PySem L2
seal PE PT PW PA PS PSs PG PGs PI PIf
section
variable {P : Program} {w : World} {K : PySem.W.Frag} {mg : Str → Option Value} {base : Heap} {f : Addr} {fd : FuncData}
def spAdd (K : PySem.W.Frag) (g : Su → Su → Su) : Sp := fun vs H Q _ => ∃ u v S T, vs = [u, v] ∧ Sm K H u S ∧ Sm K H v T ∧ Wf S ∧ Wf T ∧ ∀ r H', Same H H' → Sm K H' r (g S T) → Q r H'
theorem get_gd {D : Pq} {k : Nat} (hk : 1 ≤ k) (h : ∀ m ∈ D, Gd k m.2) (n : Int) : Gd k ((lookP D n).getD (0, 1)) := by
  cases e : lookP D n with
  | none => exact gd_one hk
  | some a => exact h _ (look_mem e)
theorem get_isF {K : PySem.W.Frag} {H : Hp} {kvs : List (Key × V)} {D : Pq} {aN : Addr} (h : DR K H kvs D) (hN : SqT K H aN [.int 0, .int 1]) (n : Int) : IsF K H ((valV kvs (Sum.inl n)).getD (.ref aN)) ((lookP D n).getD (0, 1)) := by
  rcases h.val n with ⟨v, a, e1, e2, hv⟩ | ⟨e1, e2⟩
  · rw [e1, e2]; exact hv
  · rw [e1, e2]; exact ⟨aN, rfl, hN⟩
theorem putP_gd {D : Pq} {n : Int} {a : Fq} {j k : Nat} (h : ∀ m ∈ D, Gd j m.2) (hjk : j ≤ k) (ha : Gd k a) : ∀ m ∈ putP D n a, Gd k m.2 := fun m hm => by
  rcases put_mem hm with rfl | hm
  · exact ha
  · exact (h m hm).mono hjk
theorem sc_added : FnScope ["one", "other", "parts", "number", "part"] ["one", "other"] (defScope s_added) := ⟨rfl, rfl, rfl, by decide +kernel, rfl, by decide +kernel, by decide +kernel⟩
theorem lk_added_one : (defScope s_added).names.lookup ("one" : Str) = some .local := by decide +kernel
theorem lk_added_other : (defScope s_added).names.lookup ("other" : Str) = some .local := by decide +kernel
theorem lk_added_parts : (defScope s_added).names.lookup ("parts" : Str) = some .local := by decide +kernel
theorem lk_added_number : (defScope s_added).names.lookup ("number" : Str) = some .local := by decide +kernel
theorem lk_added_part : (defScope s_added).names.lookup ("part" : Str) = some .local := by decide +kernel
theorem lk_added_NOUGHT : (defScope s_added).names.lookup ("NOUGHT" : Str) = some .globalImplicit := by decide +kernel
theorem lk_added_dict : (defScope s_added).names.lookup ("dict" : Str) = some .globalImplicit := by decide +kernel
theorem lk_added_pairs_of : (defScope s_added).names.lookup ("pairs_of" : Str) = some .globalImplicit := by decide +kernel
theorem lk_added_plus : (defScope s_added).names.lookup ("plus" : Str) = some .globalImplicit := by decide +kernel
theorem ok_added {ff fg CB aN aO fDP fDS fDQ : Addr} {df dg dDP dDS dDQ : FuncData} {dV : Value} {ds : List Value} (F : Fun K "added" "added" s_added f fd) (B : Blt mg) (C : Cst K mg aN aO) (D : DefD K mg "fraction" s_fraction dV ff df ["top", "bottom"] ds) (G : DefAt K mg "greatest_divisor" s_greatest_divisor fg dg ["one", "other"]) (X : BadF K mg CB) (DP : DefAt K mg "plus" s_plus fDP dDP ["one", "other"]) (DS : DefAt K mg "sign" s_sign fDS dDS ["one"]) (DQ : DefAt K mg "pairs_of" s_pairs_of fDQ dDQ ["parts"]) : FnOk P w K mg base CX0 5 f fd ["one", "other"] (spAdd K addP) := by
  have OP : FnOk P w K mg base CX0 4 fDP dDP ["one", "other"] (spBin K plF) := (ok_plus DP.F B D G X).to0
  have OQ : FnOk P w K mg base CX0 2 fDQ dDQ ["parts"] (spPairs K) := ok_pairs_of DQ.F B DS
  refine F.ok sc_added (fun vs H Q E h => ?_) (fun cdv A outer s H vs Q E hr h => ?_)
  · obtain ⟨_, _, _, _, rfl, _⟩ := h
    rfl
  obtain ⟨_, _, S, T, rfl, ⟨p, cv, pv', rfl, hp, hc, pp, vs1, rfl, hpp, pr1⟩, ⟨q, cw, pw', rfl, hq, hcw, pq, vs2, rfl, hpq, pr2⟩, wS, wT, k⟩ := h
  obtain ⟨kvs, pv1, dr0⟩ := pairs_of_ps pr1
  have nd := sc_added.nd
  have hu := hu_of hr
  have hr2 : Room 2 _ := hr.mono (by decide)
  refine ⟨_, pss_cons (ps_set (i := 2) nd rfl (Or.inl lk_added_parts) (pe_callTy (call_dictT (K := K) rfl rfl) lk_added_dict B.dict bt_dict (pa_Subscript (pe_ix ix_tup (pv 0 rfl (Or.inl lk_added_one)) (pe_int) (fun _ _ => rfl)) pa_nil)))
    (pss_cons (ps_for PassesOwn.never rfl (pi_tup (pe_ix ix_tup (pv 1 rfl (Or.inl lk_added_other)) (pe_int) (fun _ _ => rfl))) (pg_tup rfl (pgs_cons (pg_name (i := 3) nd rfl (Or.inl lk_added_number)) (pgs_cons (pg_name (i := 4) nd rfl (Or.inl lk_added_part)) (pgs_nil)))) (pss_one (ps_dput hu (pv 2 rfl (Or.inl lk_added_parts)) (pv 3 rfl (Or.inl lk_added_number)) (pe_call OP hr lk_added_plus DP.m DP.F.kp DP.b .nil pass0 (pa_Call (pe_dget2 hu (pv 2 rfl (Or.inl lk_added_parts)) (pv 3 rfl (Or.inl lk_added_number)) (pe_glob (v := .ref aN) lk_added_NOUGHT C.mN rfl) ⟨rfl, rfl, rfl, rfl⟩) (pa_Name (pv 4 rfl (Or.inl lk_added_part)) pa_nil))) rfl)))
    (pss_one (ps_ret (pe_tup (pa_Call (pe_call OP hr lk_added_plus DP.m DP.F.kp DP.b .nil pass0 (pa_Subscript (pe_ix ix_tup (pv 0 rfl (Or.inl lk_added_one)) (pe_int) (fun _ _ => rfl)) (pa_Subscript (pe_ix ix_tup (pv 1 rfl (Or.inl lk_added_other)) (pe_int) (fun _ _ => rfl)) pa_nil))) (pa_Call (pe_call OQ hr2 lk_added_pairs_of DQ.m DQ.F.kp DQ.b .nil pass0 (pa_Name (pv 2 rfl (Or.inl lk_added_parts)) pa_nil)) pa_nil)))))), ?_⟩
  refine ⟨_, rfl, p, _, _, _, rfl, rfl, SqT.of hp, rfl, pp, vs1, kvs, rfl, hpp, pv1, fun dA hdA => ?_⟩
  rw [dr0.merge (rising_nodup wS.r)]
  have s1 : Same H (upd H dA (.dK kvs)) := same_new hdA _
  have e1 : upd H dA (.dK kvs) dA = some (.dK kvs) := upd_same
  have dr1 : DR K (upd H dA (.dK kvs)) kvs S.2 := dr0.same s1
  generalize upd H dA (.dK kvs) = H1 at s1 e1 dr1 ⊢
  have l2 : vs2.length = T.2.length := pr2.length
  refine ⟨_, rfl, q, _, _, _, rfl, rfl, SqT.of (s1 _ _ hq), rfl, pq, rfl, ⟨_, SqT.of (s1 _ _ hpq)⟩, ?_⟩
  refine for_tup (xs := vs2) (fun i σ H' => ∃ (kv pt : Option V) (kvs' : List (Key × V)), σ = [some (.ref p), some (.ref q), some (.ref dA), kv, pt] ∧ Same H H' ∧ H' dA = some (.dK kvs') ∧ DR K H' kvs' (addD S.2 (T.2.take i)) ∧ (∀ m ∈ addD S.2 (T.2.take i), Gd (102 * i + 101) m.2) ∧ (addD S.2 (T.2.take i)).length ≤ 12 + i)
    ⟨none, none, kvs, rfl, s1, e1, dr1, fun m hm => (wS.p m hm).1, by have := wS.l; show S.2.length ≤ 12 + 0; omega⟩ (fun i σ H' _ h => ?_) (fun i x σ H' hx h => ?_) (fun σ H' h => ?_)
  · obtain ⟨_, _, _, _, sm, _⟩ := h
    exact SqT.of (sm _ _ hpq)
  · obtain ⟨kv, pt, kvs', rfl, sm, ed, dr, gd', ln⟩ := h
    have hi : i < T.2.length := by rw [← l2]; exact (List.getElem?_eq_some_iff.mp hx).1
    have l12 := wT.l
    have hm := List.getElem?_eq_getElem hi
    have hmem : T.2[i] ∈ T.2 := List.getElem_mem hi
    obtain ⟨a', fv, rfl, sq, hf⟩ := (pair_get pr2 i _ _ hx hm).same sm
    have gg := get_gd (by omega) gd' T.2[i].1
    have gi := get_isF dr (C.fN _) T.2[i].1
    refine ⟨a', _, rfl, sq, rfl, _, _, rfl, _, _, rfl, rfl, ?_⟩
    refine ⟨_, rfl, dA, rfl, .inl ⟨_, .inl ed⟩, _, rfl, _, DGet.k (k := Sum.inl T.2[i].1) ed, _, rfl, _, _, _, _, 102 * i + 101, 101, rfl, gi, hf, gg, (wT.p _ hmem).1, by omega, fun r H2 s2 f2 => ?_⟩
    refine ⟨_, rfl, _, rfl, dA, _, rfl, DPut.k (k := Sum.inl T.2[i].1) (s2 _ _ ed) (by rw [dr.length, PySem.sizeLine_eq]; omega), ?_⟩
    refine ⟨_, _, _, rfl, same_upd (sm.trans s2) hdA, upd_same, ?_, ?_, ?_⟩
    · rw [take_next hm, addD_snoc]
      exact ((dr.same s2).put f2).updD (s2 _ _ ed)
    · rw [take_next hm, addD_snoc]
      exact putP_gd gd' (by omega) ((gg.plus (wT.p _ hmem).1).mono (by omega))
    · rw [take_next hm, addD_snoc]
      have := put_len (addD S.2 (T.2.take i)) T.2[i].1 (plF ((lookP (addD S.2 (T.2.take i)) T.2[i].1).getD (0, 1)) T.2[i].2)
      omega
  · obtain ⟨kv, pt, kvs', rfl, sm, ed, dr, gd', ln⟩ := h
    rw [l2, List.take_length] at dr ln
    have l12 := wT.l
    refine ⟨_, rfl, p, _, _, _, rfl, rfl, SqT.of (sm _ _ hp), rfl, _, rfl, q, _, _, _, rfl, rfl, SqT.of (sm _ _ hq), rfl, _, _, _, _, 101, 101, rfl, hc.same sm, hcw.same sm, wS.c, wT.c, by decide, fun r1 H2 s2 f2 => ?_⟩
    refine ⟨_, rfl, dA, kvs', _, rfl, s2 _ _ ed, dr.same s2, by omega, fun r2 H3 s3 ps => ?_⟩
    refine ⟨(by show 2 ≤ sizeLine; decide), fun r3 h3 => ?_⟩
    have s4 : Same H3 (upd H3 r3 (.tup [r1, r2])) := same_new h3 _
    exact k _ _ (((sm.trans s2).trans s3).trans s4) ⟨r3, _, _, rfl, upd_same, (f2.same s3).same s4, ps.same s4⟩
def spScale (K : PySem.W.Frag) (g : Su → Fq → Su) : Sp := fun vs H Q _ => ∃ u v S a, vs = [u, v] ∧ Sm K H u S ∧ IsF K H v a ∧ Wf S ∧ Gd 101 a ∧ ∀ r H', Same H H' → Sm K H' r (g S a) → Q r H'
theorem sc_scaled : FnScope ["one", "part"] ["one", "part"] (defScope s_scaled) := ⟨rfl, rfl, rfl, by decide +kernel, rfl, by decide +kernel, by decide +kernel⟩
theorem lk_scaled_one : (defScope s_scaled).names.lookup ("one" : Str) = some .local := by decide +kernel
theorem lk_scaled_part : (defScope s_scaled).names.lookup ("part" : Str) = some .cell := by decide +kernel
theorem lk_scaled_NOUGHT : (defScope s_scaled).names.lookup ("NOUGHT" : Str) = some .globalImplicit := by decide +kernel
theorem lk_scaled_plain : (defScope s_scaled).names.lookup ("plain" : Str) = some .globalImplicit := by decide +kernel
theorem lk_scaled_sign : (defScope s_scaled).names.lookup ("sign" : Str) = some .globalImplicit := by decide +kernel
theorem lk_scaled_times : (defScope s_scaled).names.lookup ("times" : Str) = some .globalImplicit := by decide +kernel
theorem lk_scaled_tuple : (defScope s_scaled).names.lookup ("tuple" : Str) = some .globalImplicit := by decide +kernel
theorem ok_scaled {ff fg CB aN aO fDT fDS fDL : Addr} {df dg dDT dDS dDL : FuncData} {dV : Value} {ds : List Value} (F : Fun K "scaled" "scaled" s_scaled f fd) (B : Blt mg) (C : Cst K mg aN aO) (D : DefD K mg "fraction" s_fraction dV ff df ["top", "bottom"] ds) (G : DefAt K mg "greatest_divisor" s_greatest_divisor fg dg ["one", "other"]) (X : BadF K mg CB) (DT : DefAt K mg "times" s_times fDT dDT ["one", "other"]) (DS : DefAt K mg "sign" s_sign fDS dDS ["one"]) (DL : DefAt K mg "plain" s_plain fDL dDL ["one"]) : FnOk P w K mg base CX0 5 f fd ["one", "part"] (spScale K scaleP) := by
  have OT : FnOk P w K mg base CX0 4 fDT dDT ["one", "other"] (spBin K tiF) := (ok_times DT.F B D G X).to0
  have OS : FnOk P w K mg base CX0 1 fDS dDS ["one"] (spSign K) := ok_sign DS.F
  have OL : FnOk P w K mg base CX0 1 fDL dDL ["one"] (spPlain K) := ok_plain DL.F
  refine F.ok sc_scaled (fun vs H Q E h => ?_) (fun cdv A outer s H vs Q E hr h => ?_)
  · obtain ⟨_, _, _, _, rfl, _⟩ := h
    rfl
  obtain ⟨_, v, S, a, rfl, ⟨p, cv, pv', rfl, hp, hc, pp, vs1, rfl, hpp, pr1⟩, hv, wS, ga, k⟩ := h
  have nd := sc_scaled.nd
  have hr1 : Room 1 _ := hr.mono (by decide)
  refine ⟨_, pss_cons (ps_if (pt_cmpR op_eq (pe_call OS hr1 lk_scaled_sign DS.m DS.F.kp DS.b .nil pass0 (pa_Name (pv 1 rfl (Or.inr (Or.inl lk_scaled_part))) pa_nil)) (pe_int) (nomark _)) (pss_one (ps_ret (pe_call OL hr1 lk_scaled_plain DL.m DL.F.kp DL.b .nil pass0 (pa_Name (pe_glob (v := .ref aN) lk_scaled_NOUGHT C.mN rfl) pa_nil)))) (pss_nil))
    (pss_one (ps_ret (pe_tup (pa_Call (pe_call OT hr lk_scaled_times DT.m DT.F.kp DT.b .nil pass0 (pa_Subscript (pe_ix ix_tup (pv 0 rfl (Or.inl lk_scaled_one)) (pe_int) (fun _ _ => rfl)) (pa_Name (pv 1 rfl (Or.inr (Or.inl lk_scaled_part))) pa_nil))) (pa_Call (pe_callTy call_tuple_of lk_scaled_tuple B.tuple bt_tuple (pa_ListComp (pe_comp rfl (frees_of ["number", "held"] [("part", 1)] ["one", "part"] (by decide +kernel)) (visC s_scaled (by decide +kernel)) (by decide +kernel) rfl (by decide +kernel) (fun y hy => PySem.mem_of_lookup hy) (pi_tup (pe_ix ix_tup (pv 0 rfl (Or.inl lk_scaled_one)) (pe_int) (fun _ _ => rfl))) (pgc2 (i := 0) (j := 1) rfl (show (["number", "held", "part"] : List Str).Nodup by decide +kernel) rfl rfl (by decide +kernel) (by decide +kernel)) (fun cl C s H fp pins => pif_nil) (fun cl C s H fp pins => pe_tup (pa_Name (pv 0 rfl (c_vloc (by decide +kernel))) (pa_Call (pe_call OT hr (c_gl (by decide +kernel)) DT.m DT.F.kp DT.b .nil pass0 (pa_Name (pv 1 rfl (c_vloc (by decide +kernel))) (pa_Name (pv 2 rfl (c_free (by decide +kernel))) pa_nil))) pa_nil)))) pa_nil)) pa_nil))))), ?_⟩
  refine ⟨_, rfl, v, a, rfl, hv, rfl, _, rfl, ?_⟩
  by_cases z0 : a.1 = 0
  · refine iteY (eqY ((sgn_zero a.1).mpr z0)) ?_
    refine ⟨_, (0, 1), rfl, ⟨aN, rfl, C.fN _⟩, fun r H' s' m' => k r H' s' ?_⟩
    unfold scaleP
    rw [if_pos z0]
    exact m'
  refine iteN (eqN (fun e => z0 ((sgn_zero a.1).mp e))) ?_
  refine ⟨_, rfl, p, _, _, _, rfl, rfl, SqT.of hp, rfl, _, rfl, _, _, _, _, 101, 101, rfl, hc, hv, wS.c, ga, by decide, fun r1 H1 s1 f1 => ?_⟩
  have l1 : vs1.length = S.2.length := pr1.length
  have l12 := wS.l
  refine ⟨_, rfl, p, _, _, _, rfl, rfl, SqT.of (s1 _ _ hp), rfl, pp, rfl, ⟨_, SqT.of (s1 _ _ hpp)⟩, fun Dl hDl => ?_⟩
  refine comp_same (J := Itt K pp) (xs := vs1) hDl (by rw [l1, PySem.sizeLine_eq]; omega) (goT (SqT.of (s1 _ _ hpp))) (stT (SqT.of (s1 _ _ hpp))) (yT (SqT.of (s1 _ _ hpp)))
    (fun i ys σ H' => (∃ y z, σ = [y, z, some v]) ∧ Paired (Pr K H') ys ((S.2.take i).map fun m => (m.1, tiF m.2 a))) ⟨⟨_, _, rfl⟩, .nil⟩ ?_ ?_
  · rintro i x ys σ H' hx ⟨⟨y, z, rfl⟩, pr⟩ eD sm Ry Rn hY hN
    have hi : i < S.2.length := by rw [← l1]; exact (List.getElem?_eq_some_iff.mp hx).1
    have hm := List.getElem?_eq_getElem hi
    have hmem : S.2[i] ∈ S.2 := List.getElem_mem hi
    have sH : Same H H' := s1.trans (sm.trans hid_le)
    obtain ⟨a', fv, rfl, sq, hf⟩ := (pair_get pr1 i _ _ hx hm).same sH
    refine ⟨a', _, rfl, sq, rfl, _, _, rfl, _, _, rfl, rfl, ?_⟩
    refine ⟨_, rfl, _, rfl, _, rfl, _, _, _, _, 101, 101, rfl, hf, hv.same sH, (wS.p _ hmem).1, ga, by decide, fun r2 H2 s2 f2 => ?_⟩
    refine ⟨(by show 2 ≤ sizeLine; decide), fun r3 h3 => hY _ _ _ (s2.trans (same_new h3 _)) ⟨⟨_, _, rfl⟩, ?_⟩⟩
    have s3 : Same H2 (upd H2 r3 (.tup [.int S.2[i].1, r2])) := same_new h3 _
    rw [take_next hm, List.map_append]
    refine Paired.snoc (Paired.mapP pr fun _ _ q => q.same (hid_same (s2.trans s3))) ?_
    exact Pr.hid ((s2.trans s3) _ _ eD) ⟨r3, r2, rfl, SqT.of upd_same, f2.same s3⟩
  · rintro ys σ H' ⟨_, pr⟩ eD sm
    rw [l1, List.take_length] at pr
    refine ⟨Dl, ys, rfl, .inl ⟨SqL.of eD, fun r hr' => ?_⟩⟩
    have s2 : Same H' (upd H' r (.tup ys)) := same_new hr' _
    refine ⟨(by show 2 ≤ sizeLine; decide), fun r3 h3 => ?_⟩
    have s3 : Same (upd H' r (.tup ys)) (upd (upd H' r (.tup ys)) r3 (.tup [r1, .ref r])) := same_new h3 _
    have s0 : Same H1 H' := sm.trans hid_le
    refine k _ _ (s1.trans (s0.trans (s2.trans s3))) ?_
    unfold scaleP
    rw [if_neg z0]
    exact ⟨r3, _, _, rfl, upd_same, ((f1.same s0).same s2).same s3, r, ys, rfl, s3 _ _ upd_same, Paired.mapP pr fun _ _ q => ((q.same hid_le).same s2).same s3⟩
structure NotL (K : PySem.W.Frag) (mg : Str → Option Value) (C : Addr) : Prop where
  m : mg "NotLinear" = some (.ref C)
  e : PySem.W.excIn K C veB "ValueError.__new__" = true
def mulP (S T : Su) : Su := if S.2 ≠ [] then scaleP S T.1 else scaleP T S.1
def spMul (K : PySem.W.Frag) (CN : Addr) : Sp := fun vs H Q E => ∃ u v S T, vs = [u, v] ∧ Sm K H u S ∧ Sm K H v T ∧ Wf S ∧ Wf T ∧ (S.2 ≠ [] → T.2 ≠ [] → E (.ref CN) none H) ∧ (S.2 = [] ∨ T.2 = [] → ∀ r H', Same H H' → Sm K H' r (mulP S T) → Q r H')
theorem paired_nil {α β : Type} {F : α → β → Prop} {xs : List α} {ys : List β} (h : Paired F xs ys) : (!xs.isEmpty) = true ↔ ys ≠ [] := by
  cases h with
  | nil => simp
  | cons a b => simp
theorem sc_multiplied : FnScope ["one", "other"] ["one", "other"] (defScope s_multiplied) := ⟨rfl, rfl, rfl, by decide +kernel, rfl, by decide +kernel, by decide +kernel⟩
theorem lk_multiplied_one : (defScope s_multiplied).names.lookup ("one" : Str) = some .local := by decide +kernel
theorem lk_multiplied_other : (defScope s_multiplied).names.lookup ("other" : Str) = some .local := by decide +kernel
theorem lk_multiplied_NotLinear : (defScope s_multiplied).names.lookup ("NotLinear" : Str) = some .globalImplicit := by decide +kernel
theorem lk_multiplied_scaled : (defScope s_multiplied).names.lookup ("scaled" : Str) = some .globalImplicit := by decide +kernel
theorem ok_multiplied {ff fg CB aN aO fDT fDS fDL fDC : Addr} {df dg dDT dDS dDL dDC : FuncData} {dV : Value} {ds : List Value} {CN : Addr} (F : Fun K "multiplied" "multiplied" s_multiplied f fd) (B : Blt mg) (C : Cst K mg aN aO) (N : NotL K mg CN) (D : DefD K mg "fraction" s_fraction dV ff df ["top", "bottom"] ds) (G : DefAt K mg "greatest_divisor" s_greatest_divisor fg dg ["one", "other"]) (X : BadF K mg CB) (DT : DefAt K mg "times" s_times fDT dDT ["one", "other"]) (DS : DefAt K mg "sign" s_sign fDS dDS ["one"]) (DL : DefAt K mg "plain" s_plain fDL dDL ["one"]) (DC : DefAt K mg "scaled" s_scaled fDC dDC ["one", "part"]) : FnOk P w K mg base (CXF P w) 6 f fd ["one", "other"] (spMul K CN) := by
  have OC : FnOk P w K mg base (CXF P w) 5 fDC dDC ["one", "part"] (spScale K scaleP) := (ok_scaled DC.F B C D G X DT DS DL).cxf _
  refine F.okX sc_multiplied (fun vs H Q E h => ?_) (fun cdv A outer s H vs Q E hr h => ?_)
  · obtain ⟨_, _, _, _, rfl, _⟩ := h
    rfl
  obtain ⟨_, _, S, T, rfl, mS, mT, wS, wT, h0, h1⟩ := h
  obtain ⟨p, cv, pv', rfl, hp, hc, pp, vs1, rfl, hpp, pr1⟩ := id mS
  obtain ⟨q, cw, pw', rfl, hq, hcw, pq, vs2, rfl, hpq, pr2⟩ := id mT
  refine ⟨_, pss_cons (ps_if (PW.pt (pw_and (pt_truth (pe_ix ix_tup (pv 0 rfl (Or.inl lk_multiplied_one)) (pe_int) (fun _ _ => rfl)) (fun _ => rfl)) (pw_and1 (pt_truth (pe_ix ix_tup (pv 1 rfl (Or.inl lk_multiplied_other)) (pe_int) (fun _ _ => rfl)) (fun _ => rfl))))) (pss_one (ps_raise rfl raises_fn N.e lk_multiplied_NotLinear N.m (pa_Constant (pe_str) pa_nil))) (pss_nil))
    (pss_cons (ps_if (pt_truth (pe_ix ix_tup (pv 0 rfl (Or.inl lk_multiplied_one)) (pe_int) (fun _ _ => rfl)) (fun _ => rfl)) (pss_one (ps_ret (pe_callS OC hr lk_multiplied_scaled DC.m DC.F.kp DC.b .nil passes_fn (pa_Name (pv 0 rfl (Or.inl lk_multiplied_one)) (pa_Subscript (pe_ix ix_tup (pv 1 rfl (Or.inl lk_multiplied_other)) (pe_int) (fun _ _ => rfl)) pa_nil))))) (pss_nil))
    (pss_one (ps_ret (pe_callS OC hr lk_multiplied_scaled DC.m DC.F.kp DC.b .nil passes_fn (pa_Name (pv 1 rfl (Or.inl lk_multiplied_other)) (pa_Subscript (pe_ix ix_tup (pv 0 rfl (Or.inl lk_multiplied_one)) (pe_int) (fun _ _ => rfl)) pa_nil)))))), ?_⟩
  have n1 := paired_nil pr1
  have n2 := paired_nil pr2
  have one : ∀ (R : Hp → Prop) (R' : Hp → Prop), (S.2 ≠ [] → R H) → (S.2 = [] → R' H) → (if (!vs1.isEmpty) = true then R H else R' H) := fun R R' a b => by
    by_cases e : (!vs1.isEmpty) = true
    · rw [if_pos e]; exact a (n1.mp e)
    · rw [if_neg e]; exact b (Classical.byContradiction fun z => e (n1.mpr z))
  refine ⟨_, rfl, p, _, _, _, rfl, rfl, SqT.of hp, rfl, _, .inr (.inl ⟨vs1, SqT.of hpp, rfl⟩), ?_⟩
  by_cases e1 : S.2 = []
  · have b1 : (!vs1.isEmpty) = false := by
      cases z : (!vs1.isEmpty) with
      | false => rfl
      | true => exact absurd e1 (n1.mp z)
    refine iteN b1 ?_
    refine iteF ?_
    refine ⟨_, rfl, p, _, _, _, rfl, rfl, SqT.of hp, rfl, _, .inr (.inl ⟨vs1, SqT.of hpp, rfl⟩), ?_⟩
    refine iteN b1 ?_
    refine ⟨_, rfl, _, rfl, p, _, _, _, rfl, rfl, SqT.of hp, rfl, _, _, T, S.1, rfl, mT, hc, wT, wS.c, fun r H' s' m' => h1 (.inl e1) r H' s' ?_⟩
    unfold mulP
    rw [if_neg (fun z => z e1)]
    exact m'
  · have b1 : (!vs1.isEmpty) = true := n1.mpr e1
    refine iteY b1 ?_
    refine ⟨_, rfl, q, _, _, _, rfl, rfl, SqT.of hq, rfl, _, .inr (.inl ⟨vs2, SqT.of hpq, rfl⟩), ?_⟩
    by_cases e2 : T.2 = []
    · have b2 : (!vs2.isEmpty) = false := by
        cases z : (!vs2.isEmpty) with
        | false => rfl
        | true => exact absurd e2 (n2.mp z)
      refine iteN b2 ?_
      refine ⟨_, rfl, p, _, _, _, rfl, rfl, SqT.of hp, rfl, _, .inr (.inl ⟨vs1, SqT.of hpp, rfl⟩), ?_⟩
      refine iteY b1 ?_
      refine ⟨_, rfl, _, rfl, q, _, _, _, rfl, rfl, SqT.of hq, rfl, _, _, S, T.1, rfl, mS, hcw, wS, wT.c, fun r H' s' m' => h1 (.inr e2) r H' s' ?_⟩
      unfold mulP
      rw [if_pos e1]
      exact m'
    · refine iteY (n2.mpr e2) ?_
      exact ⟨(by show 1 ≤ sizeLine; decide), h0 e1 e2⟩
def spWorth (K : PySem.W.Frag) : Sp := fun vs H Q _ => ∃ u w S fs vals, vs = [u, .ref w] ∧ Sm K H u S ∧ Wf S ∧ (SqL K H w fs ∨ SqT K H w fs) ∧ Paired (IsF K H) fs vals ∧ (∀ x ∈ vals, Gd 101 x) ∧ (∀ m ∈ S.2, m.1 < vals.length) ∧ ∀ r H', Same H H' → IsF K H' r (worthP S vals) → Q r H'
def wrt (c : Fq) (ms : Pq) (vals : List Fq) : Fq := ms.foldl (fun t m => plF t (tiF m.2 (vals.getD m.1.toNat (0, 1)))) c
theorem wrt_snoc (c : Fq) (ms : Pq) (vals : List Fq) (m : Int × Fq) : wrt c (ms ++ [m]) vals = plF (wrt c ms vals) (tiF m.2 (vals.getD m.1.toNat (0, 1))) := by
  unfold wrt
  rw [List.foldl_append]
  rfl
theorem val_at {K : PySem.W.Frag} {H : Hp} {fs : List V} {vals : List Fq} (h : Paired (IsF K H) fs vals) (g : ∀ x ∈ vals, Gd 101 x) {n : Int} (h0 : 0 ≤ n) (h1 : n < vals.length) :
    ∃ fv, atI fs n = some fv ∧ IsF K H fv (vals.getD n.toNat (0, 1)) ∧ Gd 101 (vals.getD n.toNat (0, 1)) := by
  have hl := h.length
  have hn : n.toNat < vals.length := by omega
  have hf : n.toNat < fs.length := by omega
  have en : n = ((n.toNat : Nat) : Int) := by omega
  have z : atI fs ((n.toNat : Nat) : Int) = some fs[n.toNat] := atI_nat (List.getElem?_eq_getElem hf)
  rw [← en] at z
  have ev : vals.getD n.toNat (0, 1) = vals[n.toNat] := by simp [hn]
  rw [ev]
  exact ⟨_, z, pair_get h n.toNat _ _ (List.getElem?_eq_getElem hf) (List.getElem?_eq_getElem hn), g _ (List.getElem_mem hn)⟩
theorem sc_worth : FnScope ["one", "values", "total", "number", "part"] ["one", "values"] (defScope s_worth) := ⟨rfl, rfl, rfl, by decide +kernel, rfl, by decide +kernel, by decide +kernel⟩
theorem lk_worth_one : (defScope s_worth).names.lookup ("one" : Str) = some .local := by decide +kernel
theorem lk_worth_values : (defScope s_worth).names.lookup ("values" : Str) = some .local := by decide +kernel
theorem lk_worth_total : (defScope s_worth).names.lookup ("total" : Str) = some .local := by decide +kernel
theorem lk_worth_number : (defScope s_worth).names.lookup ("number" : Str) = some .local := by decide +kernel
theorem lk_worth_part : (defScope s_worth).names.lookup ("part" : Str) = some .local := by decide +kernel
theorem lk_worth_plus : (defScope s_worth).names.lookup ("plus" : Str) = some .globalImplicit := by decide +kernel
theorem lk_worth_times : (defScope s_worth).names.lookup ("times" : Str) = some .globalImplicit := by decide +kernel
theorem ok_worth {ff fg CB aN aO fDP fDT : Addr} {df dg dDP dDT : FuncData} {dV : Value} {ds : List Value} (F : Fun K "worth" "worth" s_worth f fd) (B : Blt mg) (D : DefD K mg "fraction" s_fraction dV ff df ["top", "bottom"] ds) (G : DefAt K mg "greatest_divisor" s_greatest_divisor fg dg ["one", "other"]) (X : BadF K mg CB) (DP : DefAt K mg "plus" s_plus fDP dDP ["one", "other"]) (DT : DefAt K mg "times" s_times fDT dDT ["one", "other"]) : FnOk P w K mg base CX0 5 f fd ["one", "values"] (spWorth K) := by
  have OP : FnOk P w K mg base CX0 4 fDP dDP ["one", "other"] (spBin K plF) := (ok_plus DP.F B D G X).to0
  have OT : FnOk P w K mg base CX0 4 fDT dDT ["one", "other"] (spBin K tiF) := (ok_times DT.F B D G X).to0
  refine F.ok sc_worth (fun vs H Q E h => ?_) (fun cdv A outer s H vs Q E hr h => ?_)
  · obtain ⟨_, _, _, _, _, rfl, _⟩ := h
    rfl
  obtain ⟨_, w0, S, fs, vals, rfl, ⟨p, cv, pv', rfl, hp, hc, pp, vs1, rfl, hpp, pr1⟩, wS, hw, pv1, gv, bd, k⟩ := h
  have nd := sc_worth.nd
  have l1 : vs1.length = S.2.length := pr1.length
  have l12 := wS.l
  refine ⟨_, pss_cons (ps_set (i := 2) nd rfl (Or.inl lk_worth_total) (pe_ix ix_tup (pv 0 rfl (Or.inl lk_worth_one)) (pe_int) (fun _ _ => rfl)))
    (pss_cons (ps_for PassesOwn.never rfl (pi_tup (pe_ix ix_tup (pv 0 rfl (Or.inl lk_worth_one)) (pe_int) (fun _ _ => rfl))) (pg_tup rfl (pgs_cons (pg_name (i := 3) nd rfl (Or.inl lk_worth_number)) (pgs_cons (pg_name (i := 4) nd rfl (Or.inl lk_worth_part)) (pgs_nil)))) (pss_one (ps_set (i := 2) nd rfl (Or.inl lk_worth_total) (pe_call OP hr lk_worth_plus DP.m DP.F.kp DP.b .nil pass0 (pa_Name (pv 2 rfl (Or.inl lk_worth_total)) (pa_Call (pe_call OT hr lk_worth_times DT.m DT.F.kp DT.b .nil pass0 (pa_Name (pv 4 rfl (Or.inl lk_worth_part)) (pa_Subscript (pe_ix ix_seq (pv 1 rfl (Or.inl lk_worth_values)) (pv 3 rfl (Or.inl lk_worth_number)) (fun _ _ => rfl)) pa_nil))) pa_nil))))))
    (pss_one (ps_ret (pv 2 rfl (Or.inl lk_worth_total))))), ?_⟩
  refine ⟨_, rfl, p, _, _, _, rfl, rfl, SqT.of hp, rfl, ?_⟩
  refine ⟨_, rfl, p, _, _, _, rfl, rfl, SqT.of hp, rfl, pp, rfl, ⟨_, SqT.of hpp⟩, ?_⟩
  refine for_tup (xs := vs1) (fun i σ H' => ∃ (n pt : Option V) (tv : V), σ = [some (.ref p), some (.ref w0), some tv, n, pt] ∧ Same H H' ∧ IsF K H' tv (wrt S.1 (S.2.take i) vals) ∧ Gd (203 * i + 101) (wrt S.1 (S.2.take i) vals))
    ⟨none, none, cv, rfl, Same.refl', hc, wS.c⟩ (fun i σ H' _ h => ?_) (fun i x σ H' hx h => ?_) (fun σ H' h => ?_)
  · obtain ⟨_, _, _, _, sm, _⟩ := h
    exact SqT.of (sm _ _ hpp)
  · obtain ⟨n, pt, tv, rfl, sm, ft', gt'⟩ := h
    have hi : i < S.2.length := by rw [← l1]; exact (List.getElem?_eq_some_iff.mp hx).1
    have hm := List.getElem?_eq_getElem hi
    have hmem : S.2[i] ∈ S.2 := List.getElem_mem hi
    obtain ⟨a', fv, rfl, sq, hf⟩ := (pair_get pr1 i _ _ hx hm).same sm
    obtain ⟨g1, _, n0, _⟩ := wS.p _ hmem
    obtain ⟨xv, ex, fx, gx⟩ := val_at (Paired.mapP pv1 fun _ _ q => q.same sm) gv n0 (bd _ hmem)
    refine ⟨a', _, rfl, sq, rfl, _, _, rfl, _, _, rfl, rfl, ?_⟩
    have go : ∀ R : VK, R xv H' → rIx K (.ref w0) (.int S.2[i].1) H' R := fun R hR => by
      rcases hw with hw | hw
      · exact .inl ⟨w0, _, _, _, rfl, rfl, sm.seq hw, ex, hR⟩
      · exact .inr (.inl ⟨w0, _, _, _, rfl, rfl, sm.seqT hw, ex, hR⟩)
    refine ⟨_, rfl, _, rfl, _, rfl, _, rfl, go _ ?_⟩
    refine ⟨_, _, _, _, 101, 101, rfl, hf, fx, g1, gx, by decide, fun r1 H1 s1 f1 => ?_⟩
    refine ⟨_, _, _, _, 203 * i + 101, 202, rfl, ft'.same s1, f1, gt', g1.times gx, by omega, fun r2 H2 s2 f2 => ?_⟩
    refine ⟨_, _, r2, rfl, sm.trans (s1.trans s2), ?_, ?_⟩
    · rw [take_next hm, wrt_snoc]
      exact f2
    · rw [take_next hm, wrt_snoc]
      exact (gt'.plus (g1.times gx)).mono (by omega)
  · obtain ⟨n, pt, tv, rfl, sm, ft', gt'⟩ := h
    rw [l1, List.take_length] at ft'
    exact ⟨_, rfl, k _ _ sm ft'⟩
end
end Pw


set_option Elab.async false
set_option linter.all false
set_option maxRecDepth 100000
set_option maxHeartbeats 4000000
namespace Pw
open PySem L2
seal PE PT PW PA PS PSs PG PGs PI PIf
section
variable {P : Program} {w : World} {K : PySem.W.Frag} {mg : Str → Option Value} {base : Heap} {f : Addr} {fd : FuncData}
def spLowF (K : PySem.W.Frag) : Sp := fun vs H Q _ => ∃ t b : Int, vs = [.int t, .int b] ∧ 0 < b ∧ b.natAbs < BIG ∧ ∀ r H', Same H H' → IsF K H' r (mkF t b) → Q r H'
theorem sc_low : FnScope ["_law_top", "_law_bottom", "_law_part_here"] ["_law_top", "_law_bottom"] (defScope s_low) := ⟨rfl, rfl, rfl, by decide +kernel, rfl, by decide +kernel, by decide +kernel⟩
theorem lk_low__law_top : (defScope s_low).names.lookup ("_law_top" : Str) = some .local := by decide +kernel
theorem lk_low__law_bottom : (defScope s_low).names.lookup ("_law_bottom" : Str) = some .local := by decide +kernel
theorem lk_low__law_part_here : (defScope s_low).names.lookup ("_law_part_here" : Str) = some .local := by decide +kernel
theorem lk_low__law_shared : (defScope s_low).names.lookup ("_law_shared" : Str) = some .globalImplicit := by decide +kernel
theorem lk_low_abs : (defScope s_low).names.lookup ("abs" : Str) = some .globalImplicit := by decide +kernel
theorem ok_low {fDSh : Addr} {dDSh : FuncData} (F : Fun K "_law_low" "_law_low" s_low f fd) (B : Blt mg) (DSh : DefAt K mg "_law_shared" s_shared fDSh dDSh ["_law_one", "_law_other"]) : FnOk P w K mg base CX0 2 f fd ["_law_top", "_law_bottom"] (spLowF K) := by
  have OS : FnOk P w K mg base CX0 1 fDSh dDSh ["_law_one", "_law_other"] spGd := ok_shared DSh.F
  refine F.ok sc_low (fun vs H Q E h => ?_) (fun cdv A outer s H vs Q E hr h => ?_)
  · obtain ⟨t, b, rfl, _⟩ := h
    rfl
  obtain ⟨t, b, rfl, bp, hz, q⟩ := h
  have nd := sc_low.nd
  refine ⟨_, pss_cons (ps_set (i := 2) nd rfl (Or.inl lk_low__law_part_here) (pe_call OS hr lk_low__law_shared DSh.m DSh.F.kp DSh.b .nil pass0 (pa_Call (pe_callB call_abs lk_low_abs B.abs bt_abs (pa_Name (pv 0 rfl (Or.inl lk_low__law_top)) pa_nil)) (pa_Call (pe_callB call_abs lk_low_abs B.abs bt_abs (pa_Name (pv 1 rfl (Or.inl lk_low__law_bottom)) pa_nil)) pa_nil))))
    (pss_cons (ps_if (pt_cmpR op_lt (pv 1 rfl (Or.inl lk_low__law_bottom)) (pe_int) (nomark _)) (pss_one (ps_set (i := 2) nd rfl (Or.inl lk_low__law_part_here) (pe_un un_neg (pv 2 rfl (Or.inl lk_low__law_part_here))))) (pss_nil))
    (pss_one (ps_ret (pe_tup (pa_BinOp (pe_op op_fdivB (pv 0 rfl (Or.inl lk_low__law_top)) (pv 2 rfl (Or.inl lk_low__law_part_here))) (pa_BinOp (pe_op op_fdivB (pv 1 rfl (Or.inl lk_low__law_bottom)) (pv 2 rfl (Or.inl lk_low__law_part_here))) pa_nil)))))), ?_⟩
  have eb : (if b < 0 then -b else b) = b := if_neg (by omega)
  refine ⟨_, rfl, t, rfl, _, rfl, b, rfl, _, _, rfl, abs_nonneg t, abs_nonneg b, ?_⟩
  rw [gd_abs, eb]
  have g0 := gd_pos (a := t) bp
  have gl := gd_log (t := t) bp hz
  refine ⟨_, rfl, _, _, rfl, rfl, _, rfl, iteN (decide_eq_false (by omega)) ?_⟩
  refine ⟨_, rfl, _, rfl, t, _, rfl, rfl, ⟨by omega, gl⟩, _, rfl, _, rfl, b, _, rfl, rfl, ⟨by omega, gl⟩, (by show 2 ≤ sizeLine; decide), fun p hp => q _ _ (same_new hp _) ?_⟩
  rw [← low_mk bp]
  exact ⟨p, rfl, SqT.of upd_same⟩
def spPart (K : PySem.W.Frag) : Sp := fun vs H Q _ => ∃ c : Int, vs = [.int c] ∧ ∀ r a H', Same H H' → IsF K H' r a → Gd 101 a → Q r H'
theorem pick3 (m : Int) (x y z : V) : ∃ v, atI ([x, y, z] : List V) (m % 3) = some v ∧ (v = x ∨ v = y ∨ v = z) := by
  rcases (by omega : m % 3 = 0 ∨ m % 3 = 1 ∨ m % 3 = 2) with e | e | e <;> rw [e]
  · exact ⟨x, rfl, .inl rfl⟩
  · exact ⟨y, rfl, .inr (.inl rfl)⟩
  · exact ⟨z, rfl, .inr (.inr rfl)⟩
theorem gd_mk {t b : Int} (hb : 0 < b) (ht : t.natAbs < 1000000000000000000000000000000) (h : b.natAbs ≤ 1000000000000000000000000000000) : Gd 101 (mkF t b) := by
  have h1 := ft_abs (t := t) (b := b) (by omega)
  have h2 := fb_abs (t := t) (b := b) (by omega)
  refine ⟨mk_red (by omega), ?_, ?_⟩
  · exact Nat.lt_of_le_of_lt h1 (Nat.lt_trans ht (by decide))
  · exact Nat.lt_of_le_of_lt h2 (Nat.lt_of_le_of_lt h (by decide))
theorem big_30 {n : Nat} (h : n ≤ 1000000000000000000000000000000) : n < BIG := lt_big (k := 100) (Nat.lt_of_le_of_lt h (by decide)) (by decide)
theorem sc_part : FnScope ["_law_cell"] ["_law_cell"] (defScope s_part) := ⟨rfl, rfl, rfl, by decide +kernel, rfl, by decide +kernel, by decide +kernel⟩
theorem lk_part__law_cell : (defScope s_part).names.lookup ("_law_cell" : Str) = some .local := by decide +kernel
theorem lk_part__law_low : (defScope s_part).names.lookup ("_law_low" : Str) = some .globalImplicit := by decide +kernel
theorem lk_part__law_number : (defScope s_part).names.lookup ("_law_number" : Str) = some .globalImplicit := by decide +kernel
theorem lk_part_abs : (defScope s_part).names.lookup ("abs" : Str) = some .globalImplicit := by decide +kernel
theorem ok_part {fDLw fDSh fDNm fDMx : Addr} {dDLw dDSh dDNm dDMx : FuncData} (F : Fun K "_law_part" "_law_part" s_part f fd) (B : Blt mg) (DLw : DefAt K mg "_law_low" s_low fDLw dDLw ["_law_top", "_law_bottom"]) (DSh : DefAt K mg "_law_shared" s_shared fDSh dDSh ["_law_one", "_law_other"]) (DNm : DefAt K mg "_law_number" s_number fDNm dDNm ["_law_cell", "_law_k"]) (DMx : DefAt K mg "_law_mixed" s_mixed fDMx dDMx ["_law_cell", "_law_k"]) : FnOk P w K mg base CX0 3 f fd ["_law_cell"] (spPart K) := by
  have OL : FnOk P w K mg base CX0 2 fDLw dDLw ["_law_top", "_law_bottom"] (spLowF K) := ok_low DLw.F B DSh
  have ON : FnOk P w K mg base CX0 2 fDNm dDNm ["_law_cell", "_law_k"] spNum := ok_number DNm.F DMx
  refine F.ok sc_part (fun vs H Q E h => ?_) (fun cdv A outer s H vs Q E hr h => ?_)
  · obtain ⟨_, rfl, _⟩ := h
    rfl
  obtain ⟨c, rfl, q⟩ := h
  refine ⟨_, pss_one (ps_ret (pe_call OL hr lk_part__law_low DLw.m DLw.F.kp DLw.b .nil pass0 (pa_Call (pe_call ON hr lk_part__law_number DNm.m DNm.F.kp DNm.b .nil pass0 (pa_Name (pv 0 rfl (Or.inl lk_part__law_cell)) (pa_Constant (pe_int) pa_nil))) (pa_BinOp (pe_op op_add (pe_int) (pe_op op_fdivB (pe_callB call_abs lk_part_abs B.abs bt_abs (pa_Call (pe_call ON hr lk_part__law_number DNm.m DNm.F.kp DNm.b .nil pass0 (pa_Name (pv 0 rfl (Or.inl lk_part__law_cell)) (pa_Constant (pe_int) pa_nil))) pa_nil)) (pe_ix ix_list (pe_lst (pa_Constant (pe_int) (pa_Constant (pe_int) (pa_Constant (pe_int) pa_nil)))) (pe_op op_mod (pv 0 rfl (Or.inl lk_part__law_cell)) (pe_int)) (fun _ _ => rfl)))) pa_nil)))), ?_⟩
  refine ⟨_, rfl, c, 0, rfl, by decide, by decide, fun n H1 bn s1 => ?_⟩
  refine ⟨_, rfl, c, 4, rfl, by decide, by decide, fun d H2 bd s2 => ?_⟩
  refine ⟨d, rfl, (by show 3 ≤ sizeLine; decide), fun l hl => ?_⟩
  obtain ⟨v, ev, hv⟩ := pick3 c (.int 1) (.int 1) (.int 1000)
  obtain ⟨j, rfl, hj⟩ : ∃ j : Int, v = .int j ∧ (j = 1 ∨ j = 1000) := by
    rcases hv with rfl | rfl | rfl
    · exact ⟨1, rfl, .inl rfl⟩
    · exact ⟨1, rfl, .inl rfl⟩
    · exact ⟨1000, rfl, .inr rfl⟩
  have s3 : Same H2 (upd H2 l (.lst [.int 1, .int 1, .int 1000])) := same_new hl _
  have e3 : upd H2 l (.lst [.int 1, .int 1, .int 1000]) l = some (.lst [.int 1, .int 1, .int 1000]) := upd_same
  generalize upd H2 l (.lst [.int 1, .int 1, .int 1000]) = H3 at s3 e3 ⊢
  refine ⟨_, rfl, c, _, rfl, rfl, (by show (0 : Int) < 3; decide), l, _, _, _, rfl, rfl, SqL.of e3, ev, ?_⟩
  have ea : (if d < 0 then -d else d) = (d.natAbs : Int) := by split <;> omega
  rw [ea]
  have j0 : j ≠ 0 := by rcases hj with rfl | rfl <;> decide
  have jl : j.natAbs.log2 < 9000 := by rcases hj with rfl | rfl <;> decide
  refine ⟨_, _, rfl, rfl, ⟨j0, jl⟩, _, _, rfl, rfl, ?_⟩
  have jp : 0 < j := by rcases hj with rfl | rfl <;> decide
  have f0 : 0 ≤ (d.natAbs : Int).fdiv j := Int.fdiv_nonneg (by omega) (by omega)
  have f1 : (d.natAbs : Int).fdiv j ≤ d.natAbs := by
    rw [Int.fdiv_eq_ediv_of_nonneg _ (by omega)]
    exact Int.ediv_le_self _ (by omega)
  refine ⟨n, _, rfl, by omega, big_30 (by omega), fun r H4 s4 f4 => ?_⟩
  exact q r _ H4 (s1.trans (s2.trans (s3.trans s4))) f4 (gd_mk (by omega) bn (by omega))
theorem SqT.updL {K : PySem.W.Frag} {H : Hp} {p l : Addr} {xs ys : List V} {o : HO} (e : H l = some (.lst ys)) (h : SqT K H p xs) : SqT K (upd H l o) p xs := by
  rcases h with (h | ⟨u, h⟩) | h
  · refine .inl (.inl ?_)
    rw [upd_ne (ne_of h e (fun z => nomatch z))]; exact h
  · refine .inl (.inr ⟨u, ?_⟩)
    rw [upd_ne (ne_of h e (fun z => nomatch z))]; exact h
  · exact .inr h
theorem IsF.updL {K : PySem.W.Frag} {H : Hp} {v : V} {a : Fq} {l : Addr} {ys : List V} {o : HO} (e : H l = some (.lst ys)) (h : IsF K H v a) : IsF K (upd H l o) v a := let ⟨p, x, y⟩ := h; ⟨p, x, SqT.updL e y⟩
theorem Pr.updL {K : PySem.W.Frag} {H : Hp} {v : V} {m : Int × Fq} {l : Addr} {ys : List V} {o : HO} (e : H l = some (.lst ys)) (h : Pr K H v m) : Pr K (upd H l o) v m := let ⟨q, fv, x, y, z⟩ := h; ⟨q, fv, x, SqT.updL e y, z.updL e⟩
theorem ne_one {a : Fq} (h : Red a) : (!eqVs [.int a.1, .int a.2] [.int 0, .int 1]) = true ↔ a.1 ≠ 0 := by
  have e : eqVs [.int a.1, .int a.2] [.int 0, .int 1] = ((a.1 == 0) && ((a.2 == 1) && true)) := rfl
  rw [e]
  by_cases z : a.1 = 0
  · have q := red_zero h z
    rw [q]
    simp
  · simp [z]
structure Mk (ps : Pq) (n : Int) (i : Nat) : Prop where
  p : ∀ m ∈ ps, Gd 101 m.2 ∧ m.2.1 ≠ 0 ∧ 0 ≤ m.1 ∧ m.1 ≤ n
  r : ps.Pairwise fun a b => a.1 < b.1
  l : ps.length ≤ i
  lo : -1 ≤ n
  hi : n ≤ 7 * i - 1
theorem Mk.skip {ps : Pq} {n n' : Int} {i : Nat} (h : Mk ps n i) (h1 : n < n') (h2 : n' ≤ n + 7) : Mk ps n' (i + 1) := ⟨fun m hm => ⟨(h.p m hm).1, (h.p m hm).2.1, (h.p m hm).2.2.1, by have := (h.p m hm).2.2.2; omega⟩, h.r, by have := h.l; omega, by have := h.lo; omega, by have := h.hi; omega⟩
theorem Mk.add {ps : Pq} {n n' : Int} {i : Nat} {a : Fq} (h : Mk ps n i) (h1 : n < n') (h2 : n' ≤ n + 7) (ga : Gd 101 a) (na : a.1 ≠ 0) : Mk (ps ++ [(n', a)]) n' (i + 1) := by
  refine ⟨fun m hm => ?_, ?_, by rw [List.length_append, List.length_singleton]; have := h.l; omega, by have := h.lo; omega, by have := h.hi; omega⟩
  · rcases List.mem_append.mp hm with hm | hm
    · exact (h.skip h1 h2).p m hm
    · have e : m = (n', a) := by simpa using hm
      subst e
      exact ⟨ga, na, by have := h.lo; show 0 ≤ n'; omega, Int.le_refl _⟩
  · rw [List.pairwise_append]
    refine ⟨h.r, by simp, fun x hx y hy => ?_⟩
    have e : y = (n', a) := by simpa using hy
    subst e
    have := (h.p x hx).2.2.2
    show x.1 < n'
    omega
def spSum (K : PySem.W.Frag) : Sp := fun vs H Q _ => ∃ c m : Int, vs = [.int c, .int m] ∧ ∀ r S H', Same H H' → Sm K H' r S → Wf S → S.2.length ≤ 6 → Q r H'
theorem sc_sum : FnScope ["_law_cell", "_law_more", "_law_pairs", "_law_number_here", "_law_k", "_law_mixed_here", "_law_part_here"] ["_law_cell", "_law_more"] (defScope s_sum) := ⟨rfl, rfl, rfl, by decide +kernel, rfl, by decide +kernel, by decide +kernel⟩
theorem lk_sum__law_cell : (defScope s_sum).names.lookup ("_law_cell" : Str) = some .local := by decide +kernel
theorem lk_sum__law_more : (defScope s_sum).names.lookup ("_law_more" : Str) = some .local := by decide +kernel
theorem lk_sum__law_pairs : (defScope s_sum).names.lookup ("_law_pairs" : Str) = some .local := by decide +kernel
theorem lk_sum__law_number_here : (defScope s_sum).names.lookup ("_law_number_here" : Str) = some .local := by decide +kernel
theorem lk_sum__law_k : (defScope s_sum).names.lookup ("_law_k" : Str) = some .local := by decide +kernel
theorem lk_sum__law_mixed_here : (defScope s_sum).names.lookup ("_law_mixed_here" : Str) = some .local := by decide +kernel
theorem lk_sum__law_part_here : (defScope s_sum).names.lookup ("_law_part_here" : Str) = some .local := by decide +kernel
theorem lk_sum__law_mixed : (defScope s_sum).names.lookup ("_law_mixed" : Str) = some .globalImplicit := by decide +kernel
theorem lk_sum__law_part : (defScope s_sum).names.lookup ("_law_part" : Str) = some .globalImplicit := by decide +kernel
theorem lk_sum_range : (defScope s_sum).names.lookup ("range" : Str) = some .globalImplicit := by decide +kernel
theorem lk_sum_tuple : (defScope s_sum).names.lookup ("tuple" : Str) = some .globalImplicit := by decide +kernel
theorem ok_sum {fDMx fDPt fDLw fDSh fDNm : Addr} {dDMx dDPt dDLw dDSh dDNm : FuncData} (F : Fun K "_law_sum" "_law_sum" s_sum f fd) (B : Blt mg) (DMx : DefAt K mg "_law_mixed" s_mixed fDMx dDMx ["_law_cell", "_law_k"]) (DPt : DefAt K mg "_law_part" s_part fDPt dDPt ["_law_cell"]) (DLw : DefAt K mg "_law_low" s_low fDLw dDLw ["_law_top", "_law_bottom"]) (DSh : DefAt K mg "_law_shared" s_shared fDSh dDSh ["_law_one", "_law_other"]) (DNm : DefAt K mg "_law_number" s_number fDNm dDNm ["_law_cell", "_law_k"]) : FnOk P w K mg base CX0 4 f fd ["_law_cell", "_law_more"] (spSum K) := by
  have OM : FnOk P w K mg base CX0 1 fDMx dDMx ["_law_cell", "_law_k"] spMixed := ok_mixed DMx.F
  have OP : FnOk P w K mg base CX0 3 fDPt dDPt ["_law_cell"] (spPart K) := ok_part DPt.F B DLw DSh DNm DMx
  refine F.ok sc_sum (fun vs H Q E h => ?_) (fun cdv A outer s H vs Q E hr h => ?_)
  · obtain ⟨_, _, rfl, _⟩ := h
    rfl
  obtain ⟨c, m, rfl, q⟩ := h
  have nd := sc_sum.nd
  have hr1 : Room 1 _ := hr.mono (by decide)
  have hu0 := Nat.lt_of_le_of_lt (Nat.le_succ _) (hu_of hr)
  refine ⟨_, pss_cons (ps_set (i := 2) nd rfl (Or.inl lk_sum__law_pairs) (pe_lst pa_nil))
    (pss_cons (ps_set (i := 3) nd rfl (Or.inl lk_sum__law_number_here) (pe_un un_neg (pe_int)))
    (pss_cons (ps_for PassesOwn.never rfl (pi_range1 lk_sum_range B.range (pa_BinOp (pe_op op_mod (pv 0 rfl (Or.inl lk_sum__law_cell)) (pe_int)) pa_nil)) (pg_name (i := 4) nd rfl (Or.inl lk_sum__law_k)) (pss_cons (ps_set (i := 5) nd rfl (Or.inl lk_sum__law_mixed_here) (pe_call OM hr1 lk_sum__law_mixed DMx.m DMx.F.kp DMx.b .nil pass0 (pa_BinOp (pe_op op_fdiv (pv 0 rfl (Or.inl lk_sum__law_cell)) (pe_int)) (pa_Name (pv 4 rfl (Or.inl lk_sum__law_k)) pa_nil))))
    (pss_cons (ps_set (i := 3) nd rfl (Or.inl lk_sum__law_number_here) (pe_op op_add (pe_op op_add (pv 3 rfl (Or.inl lk_sum__law_number_here)) (pe_int)) (pe_op op_modN (pv 5 rfl (Or.inl lk_sum__law_mixed_here)) (pe_ix ix_list (pe_lst (pa_Constant (pe_int) (pa_Constant (pe_int) (pa_Constant (pe_int) pa_nil)))) (pe_op op_mod (pe_op op_fdiv (pv 5 rfl (Or.inl lk_sum__law_mixed_here)) (pe_int)) (pe_int)) (fun _ _ => rfl)))))
    (pss_cons (ps_set (i := 6) nd rfl (Or.inl lk_sum__law_part_here) (pe_call OP hr lk_sum__law_part DPt.m DPt.F.kp DPt.b .nil pass0 (pa_Call (pe_call OM hr1 lk_sum__law_mixed DMx.m DMx.F.kp DMx.b .nil pass0 (pa_Name (pv 1 rfl (Or.inl lk_sum__law_more)) (pa_BinOp (pe_op op_add (pe_int) (pv 4 rfl (Or.inl lk_sum__law_k))) pa_nil))) pa_nil)))
    (pss_one (ps_if (pt_cmpR (op_neTF (K := K) rfl hu0) (pv 6 rfl (Or.inl lk_sum__law_part_here)) (pe_tup (pa_Constant (pe_int) (pa_Constant (pe_int) pa_nil))) (nomark _)) (pss_one (ps_expr (pe_bm PySem.F.plainAttrs_list PySem.F.slot_list_append PySem.F.type_list_append mt_append (pv 2 rfl (Or.inl lk_sum__law_pairs)) (pa_Tuple (pe_tup (pa_Name (pv 3 rfl (Or.inl lk_sum__law_number_here)) (pa_Name (pv 6 rfl (Or.inl lk_sum__law_part_here)) pa_nil))) pa_nil)))) (pss_nil)))))))
    (pss_one (ps_ret (pe_tup (pa_Call (pe_call OP hr lk_sum__law_part DPt.m DPt.F.kp DPt.b .nil pass0 (pa_Call (pe_call OM hr1 lk_sum__law_mixed DMx.m DMx.F.kp DMx.b .nil pass0 (pa_Name (pv 1 rfl (Or.inl lk_sum__law_more)) (pa_Constant (pe_int) pa_nil))) pa_nil)) (pa_Call (pe_callTy call_tuple_of lk_sum_tuple B.tuple bt_tuple (pa_Name (pv 2 rfl (Or.inl lk_sum__law_pairs)) pa_nil)) pa_nil))))))), ?_⟩
  refine ⟨Nat.zero_le _, fun lp hlp => ?_⟩
  have s0 : Same H (upd H lp (.lst [])) := same_new hlp _
  have e0 : upd H lp (.lst []) lp = some (.lst []) := upd_same
  generalize upd H lp (.lst []) = H0 at s0 e0 ⊢
  refine ⟨1, rfl, ?_⟩
  have c0 := Int.emod_nonneg c (show (7 : Int) ≠ 0 by decide)
  have c1 := Int.emod_lt_of_pos c (show (0 : Int) < 7 by decide)
  refine ⟨_, rfl, c, _, rfl, rfl, (by show (0 : Int) < 7; decide), c % 7, rfl, by omega, by omega, ?_⟩
  have n6 : (c % 7).toNat ≤ 6 := by omega
  generalize (c % 7).toNat = n at n6 ⊢
  refine for_range (n := n) (fun i σ H' => i ≤ n → ∃ (num : Int) (ks mh ph : Option V) (ys : List V) (ps : Pq), σ = [some (.int c), some (.int m), some (.ref lp), some (.int num), ks, mh, ph] ∧ Same H H' ∧ H' lp = some (.lst ys) ∧ Paired (Pr K H') ys ps ∧ Mk ps num i)
    (fun _ => ⟨-1, none, none, none, [], [], rfl, s0, e0, .nil, ⟨(fun m hm => nomatch hm), .nil, Nat.le_refl _, by decide, by decide⟩⟩) (fun i σ H' hi h => ?_) (fun σ H' h => ?_)
  · obtain ⟨num, ks, mh, ph, ys, ps, rfl, sm, el, pr, mk⟩ := h (Nat.le_of_lt hi)
    refine ⟨_, rfl, c, _, rfl, rfl, ⟨by decide, by decide⟩, _, rfl, c / 7, 0 + i, rfl, by omega, by omega, fun m1 a1 b1 => ?_⟩
    refine ⟨_, rfl, _, _, rfl, rfl, _, rfl, (by show 3 ≤ sizeLine; decide), fun l hl => ?_⟩
    have s1 : Same H' (upd H' l (.lst [.int 1, .int 2, .int 7])) := same_new hl _
    have e1 : upd H' l (.lst [.int 1, .int 2, .int 7]) l = some (.lst [.int 1, .int 2, .int 7]) := upd_same
    generalize upd H' l (.lst [.int 1, .int 2, .int 7]) = H1 at s1 e1 ⊢
    obtain ⟨v, ev, hv⟩ := pick3 (m1 / 7) (.int 1) (.int 2) (.int 7)
    obtain ⟨j, rfl, hj⟩ : ∃ j : Int, v = .int j ∧ (j = 1 ∨ j = 2 ∨ j = 7) := by
      rcases hv with rfl | rfl | rfl
      · exact ⟨1, rfl, .inl rfl⟩
      · exact ⟨2, rfl, .inr (.inl rfl)⟩
      · exact ⟨7, rfl, .inr (.inr rfl)⟩
    refine ⟨_, rfl, m1, _, rfl, rfl, ⟨by decide, by decide⟩, _, _, rfl, rfl, (by show (0 : Int) < 3; decide), l, _, _, _, rfl, rfl, SqL.of e1, ev, ?_⟩
    have j0 : 0 < j := by omega
    refine ⟨_, _, rfl, rfl, (by omega), _, _, rfl, rfl, ?_⟩
    have r0 := Int.fmod_nonneg_of_pos m1 j0
    have r1 := Int.fmod_lt_of_pos m1 j0
    dsimp only
    obtain ⟨num', hnum⟩ : ∃ z, num + 1 + m1.fmod j = z := ⟨_, rfl⟩
    rw [hnum]
    have g1 : num < num' := by omega
    have g2 : num' ≤ num + 7 := by omega
    refine ⟨_, rfl, _, rfl, _, _, rfl, rfl, m, 20 + (0 + i), rfl, by omega, by omega, fun m2 a2 b2 => ?_⟩
    refine ⟨m2, rfl, fun r a H2 s2 fa ga => ?_⟩
    obtain ⟨pa, rfl, sa⟩ := id fa
    refine ⟨_, rfl, (by show 2 ≤ sizeLine; decide), fun p2 h2 => ?_⟩
    have s3 : Same H2 (upd H2 p2 (.tup [.int 0, .int 1])) := same_new h2 _
    have e3 : upd H2 p2 (.tup [.int 0, .int 1]) p2 = some (.tup [.int 0, .int 1]) := upd_same
    generalize upd H2 p2 (.tup [.int 0, .int 1]) = H3 at s3 e3 ⊢
    refine ⟨pa, p2, _, _, rfl, rfl, s3.seqT sa, SqT.of e3, rfl, rfl, _, rfl, ?_⟩
    have s123 : Same H' H3 := s1.trans (s2.trans s3)
    by_cases z : a.1 = 0
    · refine iteN (by
        cases e : (!eqVs [.int a.1, .int a.2] [.int 0, .int 1]) with
        | false => rfl
        | true => exact absurd z ((ne_one ga.1).mp e)) ?_
      exact fun _ => ⟨num', _, _, _, ys, ps, rfl, sm.trans s123, s123 _ _ el, Paired.mapP pr fun _ _ q => q.same s123, mk.skip g1 g2⟩
    · refine iteY ((ne_one ga.1).mpr z) ?_
      refine ⟨_, rfl, .inl ⟨rfl, _, SqL.of (s123 _ _ el)⟩, _, rfl, _, rfl, (by show 2 ≤ sizeLine; decide), fun p4 h4 => ?_⟩
      have s4 : Same H3 (upd H3 p4 (.tup [.int num', .ref pa])) := same_new h4 _
      have e4 : upd H3 p4 (.tup [.int num', .ref pa]) p4 = some (.tup [.int num', .ref pa]) := upd_same
      generalize upd H3 p4 (.tup [.int num', .ref pa]) = H4 at s4 e4 ⊢
      have s1234 : Same H' H4 := s123.trans s4
      have el4 := s1234 _ _ el
      have ly : ys.length ≤ 6 := by rw [pr.length]; have := mk.l; omega
      refine ⟨lp, _, _, rfl, rfl, el4, by rw [PySem.sizeLine_eq]; omega, ?_⟩
      refine fun _ => ⟨num', _, _, _, _, ps ++ [(num', a)], rfl, same_upd (sm.trans s1234) hlp, upd_same, ?_, mk.add g1 g2 ga z⟩
      refine Paired.snoc (Paired.mapP pr fun _ _ q => (q.same s1234).updL el4) ?_
      exact Pr.updL el4 ⟨p4, .ref pa, rfl, SqT.of e4, (fa.same s3).same s4⟩
  · obtain ⟨num, ks, mh, ph, ys, ps, rfl, sm, el, pr, mk⟩ := h (Nat.le_refl _)
    refine ⟨_, rfl, m, 50, rfl, by decide, by decide, fun m1 a1 b1 => ⟨m1, rfl, fun r a H1 s1 fa ga => ?_⟩⟩
    refine ⟨_, rfl, lp, ys, rfl, .inl ⟨SqL.of (s1 _ _ el), fun t ht => ?_⟩⟩
    have s2 : Same H1 (upd H1 t (.tup ys)) := same_new ht _
    refine ⟨(by show 2 ≤ sizeLine; decide), fun p3 h3 => ?_⟩
    have s3 : Same (upd H1 t (.tup ys)) (upd (upd H1 t (.tup ys)) p3 (.tup [r, .ref t])) := same_new h3 _
    have l6 := mk.l
    refine q _ (a, ps) _ (sm.trans (s1.trans (s2.trans s3))) ⟨p3, _, _, rfl, upd_same, (fa.same s2).same s3, t, ys, rfl, s3 _ _ upd_same, Paired.mapP pr fun _ _ q => ((q.same s1).same s2).same s3⟩ ⟨ga, fun m hm => ?_, mk.r, by show ps.length ≤ 12; omega⟩ (by show ps.length ≤ 6; omega)
    have h1 := mk.p m hm
    have h2 := mk.hi
    exact ⟨h1.1, h1.2.1, h1.2.2.1, by omega⟩
end
end Pw


set_option Elab.async false
set_option linter.all false
set_option maxRecDepth 100000
set_option maxHeartbeats 4000000
namespace Pw
open PySem L2
seal PE PT PW PA PS PSs PG PGs PI PIf
section
variable {P : Program} {w : World} {K : PySem.W.Frag} {mg : Str → Option Value} {base : Heap} {f : Addr} {fd : FuncData}
theorem sc_lplus : FnScope ["_law_one", "_law_other"] ["_law_one", "_law_other"] (defScope s_lplus) := ⟨rfl, rfl, rfl, by decide +kernel, rfl, by decide +kernel, by decide +kernel⟩
theorem lk_lplus__law_one : (defScope s_lplus).names.lookup ("_law_one" : Str) = some .local := by decide +kernel
theorem lk_lplus__law_other : (defScope s_lplus).names.lookup ("_law_other" : Str) = some .local := by decide +kernel
theorem lk_lplus__law_low : (defScope s_lplus).names.lookup ("_law_low" : Str) = some .globalImplicit := by decide +kernel
theorem ok_lplus {fDLw fDSh : Addr} {dDLw dDSh : FuncData} (F : Fun K "_law_plus" "_law_plus" s_lplus f fd) (B : Blt mg) (DLw : DefAt K mg "_law_low" s_low fDLw dDLw ["_law_top", "_law_bottom"]) (DSh : DefAt K mg "_law_shared" s_shared fDSh dDSh ["_law_one", "_law_other"]) : FnOk P w K mg base CX0 3 f fd ["_law_one", "_law_other"] (spBin K plF) := by
  have OL : FnOk P w K mg base CX0 2 fDLw dDLw ["_law_top", "_law_bottom"] (spLowF K) := ok_low DLw.F B DSh
  refine F.ok sc_lplus (fun vs H Q E h => ?_) (fun cdv A outer s H vs Q E hr h => ?_)
  · obtain ⟨_, _, _, _, _, _, rfl, _⟩ := h
    rfl
  obtain ⟨_, _, a, b, j, k, rfl, ⟨p, rfl, hp⟩, ⟨q, rfl, hq⟩, ga, gb, hjk, h1⟩ := h
  have hkj : k + j ≤ 4000 := by omega
  refine ⟨_, pss_one (ps_ret (pe_call OL hr lk_lplus__law_low DLw.m DLw.F.kp DLw.b .nil pass0 (pa_BinOp (pe_op op_add (pe_op op_mulF (pe_ix ix_tup (pv 0 rfl (Or.inl lk_lplus__law_one)) (pe_int) (fun _ _ => rfl)) (pe_ix ix_tup (pv 1 rfl (Or.inl lk_lplus__law_other)) (pe_int) (fun _ _ => rfl))) (pe_op op_mulF (pe_ix ix_tup (pv 1 rfl (Or.inl lk_lplus__law_other)) (pe_int) (fun _ _ => rfl)) (pe_ix ix_tup (pv 0 rfl (Or.inl lk_lplus__law_one)) (pe_int) (fun _ _ => rfl)))) (pa_BinOp (pe_op op_mulF (pe_ix ix_tup (pv 0 rfl (Or.inl lk_lplus__law_one)) (pe_int) (fun _ _ => rfl)) (pe_ix ix_tup (pv 1 rfl (Or.inl lk_lplus__law_other)) (pe_int) (fun _ _ => rfl))) pa_nil)))), ?_⟩
  exact ⟨_, rfl, p, _, _, _, rfl, rfl, hp, rfl, _, rfl, q, _, _, _, rfl, rfl, hq, rfl, _, _, rfl, rfl, mf hjk ga.2.1 gb.2.2, _, rfl, q, _, _, _, rfl, rfl, hq, rfl, _, rfl, p, _, _, _, rfl, rfl, hp, rfl, _, _, rfl, rfl, mf hkj gb.2.1 ga.2.2, _, _, rfl, rfl, _, rfl, p, _, _, _, rfl, rfl, hp, rfl, _, rfl, q, _, _, _, rfl, rfl, hq, rfl, _, _, rfl, rfl, mf hjk ga.2.2 gb.2.2, _, _, rfl, ga.1.mul_pos gb.1, lt_big (ga.2.bot gb.2) (by omega), h1⟩
theorem sc_ltimes : FnScope ["_law_one", "_law_other"] ["_law_one", "_law_other"] (defScope s_ltimes) := ⟨rfl, rfl, rfl, by decide +kernel, rfl, by decide +kernel, by decide +kernel⟩
theorem lk_ltimes__law_one : (defScope s_ltimes).names.lookup ("_law_one" : Str) = some .local := by decide +kernel
theorem lk_ltimes__law_other : (defScope s_ltimes).names.lookup ("_law_other" : Str) = some .local := by decide +kernel
theorem lk_ltimes__law_low : (defScope s_ltimes).names.lookup ("_law_low" : Str) = some .globalImplicit := by decide +kernel
theorem ok_ltimes {fDLw fDSh : Addr} {dDLw dDSh : FuncData} (F : Fun K "_law_times" "_law_times" s_ltimes f fd) (B : Blt mg) (DLw : DefAt K mg "_law_low" s_low fDLw dDLw ["_law_top", "_law_bottom"]) (DSh : DefAt K mg "_law_shared" s_shared fDSh dDSh ["_law_one", "_law_other"]) : FnOk P w K mg base CX0 3 f fd ["_law_one", "_law_other"] (spBin K tiF) := by
  have OL : FnOk P w K mg base CX0 2 fDLw dDLw ["_law_top", "_law_bottom"] (spLowF K) := ok_low DLw.F B DSh
  refine F.ok sc_ltimes (fun vs H Q E h => ?_) (fun cdv A outer s H vs Q E hr h => ?_)
  · obtain ⟨_, _, _, _, _, _, rfl, _⟩ := h
    rfl
  obtain ⟨_, _, a, b, j, k, rfl, ⟨p, rfl, hp⟩, ⟨q, rfl, hq⟩, ga, gb, hjk, h1⟩ := h
  have hkj : k + j ≤ 4000 := by omega
  refine ⟨_, pss_one (ps_ret (pe_call OL hr lk_ltimes__law_low DLw.m DLw.F.kp DLw.b .nil pass0 (pa_BinOp (pe_op op_mulF (pe_ix ix_tup (pv 0 rfl (Or.inl lk_ltimes__law_one)) (pe_int) (fun _ _ => rfl)) (pe_ix ix_tup (pv 1 rfl (Or.inl lk_ltimes__law_other)) (pe_int) (fun _ _ => rfl))) (pa_BinOp (pe_op op_mulF (pe_ix ix_tup (pv 0 rfl (Or.inl lk_ltimes__law_one)) (pe_int) (fun _ _ => rfl)) (pe_ix ix_tup (pv 1 rfl (Or.inl lk_ltimes__law_other)) (pe_int) (fun _ _ => rfl))) pa_nil)))), ?_⟩
  exact ⟨_, rfl, p, _, _, _, rfl, rfl, hp, rfl, _, rfl, q, _, _, _, rfl, rfl, hq, rfl, _, _, rfl, rfl, mf hjk ga.2.1 gb.2.1, _, rfl, p, _, _, _, rfl, rfl, hp, rfl, _, rfl, q, _, _, _, rfl, rfl, hq, rfl, _, _, rfl, rfl, mf hjk ga.2.2 gb.2.2, _, _, rfl, ga.1.mul_pos gb.1, lt_big (ga.2.bot gb.2) (by omega), h1⟩
def spOf (K : PySem.W.Frag) : Sp := fun vs H Q _ => ∃ cv c d kvs D, vs = [cv, .ref d] ∧ IsF K H cv c ∧ H d = some (.dK kvs) ∧ DR K H kvs D ∧ D.length < 64 ∧ (∀ m ∈ D, Red m.2) ∧ ∀ r H', Same H H' → Sm K H' r (c, ofP D) → Q r H'
theorem sc_of : FnScope ["_law_constant", "_law_parts"] ["_law_constant", "_law_parts"] (defScope s_of) := ⟨rfl, rfl, rfl, by decide +kernel, rfl, by decide +kernel, by decide +kernel⟩
theorem lk_of__law_constant : (defScope s_of).names.lookup ("_law_constant" : Str) = some .local := by decide +kernel
theorem lk_of__law_parts : (defScope s_of).names.lookup ("_law_parts" : Str) = some .cell := by decide +kernel
theorem lk_of_sorted : (defScope s_of).names.lookup ("sorted" : Str) = some .globalImplicit := by decide +kernel
theorem lk_of_tuple : (defScope s_of).names.lookup ("tuple" : Str) = some .globalImplicit := by decide +kernel
theorem ok_of (F : Fun K "_law_of" "_law_of" s_of f fd) (B : Blt mg) : FnOk P w K mg base CX0 1 f fd ["_law_constant", "_law_parts"] (spOf K) := by
  refine F.ok sc_of (fun vs H Q E h => ?_) (fun cdv A outer s H vs Q E hr h => ?_)
  · obtain ⟨_, _, _, _, _, rfl, _⟩ := h
    rfl
  obtain ⟨cv, c, d, kvs, D, rfl, hc, hd, dr, hl, red, q⟩ := h
  have nd := sc_of.nd
  have hu := hu_of hr
  have hu0 := Nat.lt_of_le_of_lt (Nat.le_succ _) hu
  refine ⟨_, pss_one (ps_ret (pe_tup (pa_Name (pv 0 rfl (Or.inl lk_of__law_constant)) (pa_Call (pe_callTy call_tuple_of lk_of_tuple B.tuple bt_tuple (pa_ListComp (pe_comp rfl (frees_of ["_law_number_here"] [("_law_parts", 1)] ["_law_constant", "_law_parts"] (by decide +kernel)) (visC s_of (by decide +kernel)) (by decide +kernel) rfl (by decide +kernel) (fun y hy => PySem.mem_of_lookup hy) (pi_list (pe_callB (call_sortedK rfl) lk_of_sorted B.sorted bt_sorted (pa_Name (pv 1 rfl (Or.inr (Or.inl lk_of__law_parts))) pa_nil))) (fun cl C s H fp pins => pg_name (i := 0) (show (["_law_number_here", "_law_parts"] : List Str).Nodup by decide +kernel) rfl (Or.inl (c_loc (by decide +kernel))) (.inr (c_loc (by decide +kernel)))) (fun cl C s H fp pins => pif_one (pt_cmpR (op_neTF (K := K) rfl hu0) (pe_dget hu (pv 1 rfl (c_free (by decide +kernel))) (pv 0 rfl (c_vloc (by decide +kernel))) (fun _ _ => rfl)) (pe_tup (pa_Constant (pe_int) (pa_Constant (pe_int) pa_nil))) (nomark _))) (fun cl C s H fp pins => pe_tup (pa_Name (pv 0 rfl (c_vloc (by decide +kernel))) (pa_Subscript (pe_dget hu (pv 1 rfl (c_free (by decide +kernel))) (pv 0 rfl (c_vloc (by decide +kernel))) (fun _ _ => rfl)) pa_nil)))) pa_nil)) pa_nil)))), ?_⟩
  refine ⟨_, rfl, _, rfl, d, kvs, D.map (·.1), rfl, .inl hd, dr.keys, by rw [dr.length]; exact hl, fun l hl' => ?_⟩
  refine ⟨l, rfl, ⟨_, SqL.of upd_same⟩, fun Dl hDl => ?_⟩
  have s1 : Same H (upd H l (.lst ((PySem.W.sortI (D.map (·.1))).map V.int))) := same_new hl' _
  have el : upd H l (.lst ((PySem.W.sortI (D.map (·.1))).map V.int)) l = some (.lst ((PySem.W.sortI (D.map (·.1))).map V.int)) := upd_same
  generalize upd H l (.lst ((PySem.W.sortI (D.map (·.1))).map V.int)) = H1 at s1 el hDl ⊢
  have ln : (PySem.W.sortI (D.map (·.1))).length = D.length := by rw [(PySem.W.sortI_perm (D.map (·.1))).length_eq, List.length_map]
  refine comp_same (J := Itl K l) (xs := (PySem.W.sortI (D.map (·.1))).map V.int) hDl (by rw [List.length_map, ln, PySem.sizeLine_eq]; omega) (goL (SqL.of el)) (stL (SqL.of el)) (yL (SqL.of el))
    (fun i ys σ H' => (∃ z, σ = [z, some (.ref d)]) ∧ Paired (Pr K H') ys (((PySem.W.sortI (D.map (·.1))).take i).filterMap (selP D))) ⟨⟨_, rfl⟩, .nil⟩ ?_ ?_
  · rintro i x ys σ H' hx ⟨⟨z, rfl⟩, pr⟩ eD sm Ry Rn hY hN
    rw [List.getElem?_map] at hx
    obtain ⟨n, hn, rfl⟩ := Option.map_eq_some_iff.mp hx
    obtain ⟨a, ha⟩ := sort_mem hn
    have s1' : Same H H' := s1.trans (sm.trans hid_le)
    have hd' := s1' _ _ hd
    have dr' := dr.same s1'
    obtain ⟨v, a', ev, ea, hv⟩ := (dr'.val n).resolve_right (fun z => by rw [z.2] at ha; cases ha)
    rw [ha] at ea
    cases ea
    have g : ∀ {G : Hp}, Same H' G → DGet G d (.int n) (some v) := fun {G} sg => by
      have := DGet.k (k := Sum.inl n) (sg _ _ hd')
      rw [ev] at this
      exact this
    obtain ⟨pa, rfl, sa⟩ := id hv
    refine ⟨_, rfl, _, rfl, d, .ref pa, rfl, g Same.refl', (by show 2 ≤ sizeLine; decide), fun p2 h2 => ?_⟩
    have s3 : Same H' (upd H' p2 (.tup [.int 0, .int 1])) := same_new h2 _
    have e3 : upd H' p2 (.tup [.int 0, .int 1]) p2 = some (.tup [.int 0, .int 1]) := upd_same
    generalize upd H' p2 (.tup [.int 0, .int 1]) = H3 at s3 e3 ⊢
    refine ⟨pa, p2, _, _, rfl, rfl, s3.seqT sa, SqT.of e3, rfl, rfl, _, rfl, ?_⟩
    have nx := sel_next (D := D) hn
    have es : selP D n = if a.1 = 0 then none else some (n, a) := by unfold selP; rw [ha]
    have ra := red _ (look_mem ha)
    by_cases z0 : a.1 = 0
    · refine iteN (by
        cases e : (!eqVs [.int a.1, .int a.2] [.int 0, .int 1]) with
        | false => rfl
        | true => exact absurd z0 ((ne_one ra).mp e)) ?_
      refine hN _ _ s3 ⟨⟨_, rfl⟩, ?_⟩
      rw [nx, es, if_pos z0]
      simpa using Paired.mapP pr fun _ _ q => q.same (hid_same s3)
    · refine iteY ((ne_one ra).mpr z0) ?_
      refine ⟨_, rfl, _, rfl, _, rfl, d, .ref pa, rfl, g s3, (by show 2 ≤ sizeLine; decide), fun p hp => hY _ _ _ (s3.trans (same_new hp _)) ⟨⟨_, rfl⟩, ?_⟩⟩
      rw [nx, es, if_neg z0]
      have s2 : Same H3 (upd H3 p (.tup [.int n, .ref pa])) := same_new hp _
      refine Paired.snoc (Paired.mapP pr fun _ _ q => q.same (hid_same (s3.trans s2))) ?_
      exact Pr.hid ((s3.trans s2) _ _ eD) ⟨p, .ref pa, rfl, SqT.of upd_same, (hv.same s3).same s2⟩
  · rintro ys σ H' ⟨_, pr⟩ eD sm
    rw [List.length_map, List.take_length] at pr
    have s1' : Same H H' := s1.trans (sm.trans hid_le)
    refine ⟨Dl, ys, rfl, .inl ⟨SqL.of eD, fun r hr' => ?_⟩⟩
    have s2 : Same H' (upd H' r (.tup ys)) := same_new hr' _
    refine ⟨(by show 2 ≤ sizeLine; decide), fun r3 h3 => ?_⟩
    have s3 : Same (upd H' r (.tup ys)) (upd (upd H' r (.tup ys)) r3 (.tup [cv, .ref r])) := same_new h3 _
    refine q _ _ (s1'.trans (s2.trans s3)) ⟨r3, _, _, rfl, upd_same, ((hc.same s1').same s2).same s3, r, ys, rfl, s3 _ _ upd_same, ?_⟩
    rw [ofP_sel]
    exact Paired.mapP pr fun _ _ q => ((q.same hid_le).same s2).same s3
theorem sc_ladded : FnScope ["_law_one", "_law_other", "_law_parts", "_law_number_here", "_law_part_here"] ["_law_one", "_law_other"] (defScope s_ladded) := ⟨rfl, rfl, rfl, by decide +kernel, rfl, by decide +kernel, by decide +kernel⟩
theorem lk_ladded__law_one : (defScope s_ladded).names.lookup ("_law_one" : Str) = some .local := by decide +kernel
theorem lk_ladded__law_other : (defScope s_ladded).names.lookup ("_law_other" : Str) = some .local := by decide +kernel
theorem lk_ladded__law_parts : (defScope s_ladded).names.lookup ("_law_parts" : Str) = some .local := by decide +kernel
theorem lk_ladded__law_number_here : (defScope s_ladded).names.lookup ("_law_number_here" : Str) = some .local := by decide +kernel
theorem lk_ladded__law_part_here : (defScope s_ladded).names.lookup ("_law_part_here" : Str) = some .local := by decide +kernel
theorem lk_ladded__law_of : (defScope s_ladded).names.lookup ("_law_of" : Str) = some .globalImplicit := by decide +kernel
theorem lk_ladded__law_plus : (defScope s_ladded).names.lookup ("_law_plus" : Str) = some .globalImplicit := by decide +kernel
theorem lk_ladded_dict : (defScope s_ladded).names.lookup ("dict" : Str) = some .globalImplicit := by decide +kernel
theorem ok_ladded {fDLp fDOf fDLw fDSh : Addr} {dDLp dDOf dDLw dDSh : FuncData} (F : Fun K "_law_added" "_law_added" s_ladded f fd) (B : Blt mg) (DLp : DefAt K mg "_law_plus" s_lplus fDLp dDLp ["_law_one", "_law_other"]) (DOf : DefAt K mg "_law_of" s_of fDOf dDOf ["_law_constant", "_law_parts"]) (DLw : DefAt K mg "_law_low" s_low fDLw dDLw ["_law_top", "_law_bottom"]) (DSh : DefAt K mg "_law_shared" s_shared fDSh dDSh ["_law_one", "_law_other"]) : FnOk P w K mg base CX0 4 f fd ["_law_one", "_law_other"] (spAdd K addP) := by
  have OP : FnOk P w K mg base CX0 3 fDLp dDLp ["_law_one", "_law_other"] (spBin K plF) := ok_lplus DLp.F B DLw DSh
  have OQ : FnOk P w K mg base CX0 1 fDOf dDOf ["_law_constant", "_law_parts"] (spOf K) := ok_of DOf.F B
  refine F.ok sc_ladded (fun vs H Q E h => ?_) (fun cdv A outer s H vs Q E hr h => ?_)
  · obtain ⟨_, _, _, _, rfl, _⟩ := h
    rfl
  obtain ⟨_, _, S, T, rfl, ⟨p, cv, pv', rfl, hp, hc, pp, vs1, rfl, hpp, pr1⟩, ⟨q, cw, pw', rfl, hq, hcw, pq, vs2, rfl, hpq, pr2⟩, wS, wT, k⟩ := h
  obtain ⟨kvs, pv1, dr0⟩ := pairs_of_ps pr1
  have nd := sc_ladded.nd
  have hu := hu_of hr
  have hr1 : Room 1 _ := hr.mono (by decide)
  refine ⟨_, pss_cons (ps_set (i := 2) nd rfl (Or.inl lk_ladded__law_parts) (pe_callTy (call_dictT (K := K) rfl rfl) lk_ladded_dict B.dict bt_dict (pa_Subscript (pe_ix ix_tup (pv 0 rfl (Or.inl lk_ladded__law_one)) (pe_int) (fun _ _ => rfl)) pa_nil)))
    (pss_cons (ps_for PassesOwn.never rfl (pi_tup (pe_ix ix_tup (pv 1 rfl (Or.inl lk_ladded__law_other)) (pe_int) (fun _ _ => rfl))) (pg_tup rfl (pgs_cons (pg_name (i := 3) nd rfl (Or.inl lk_ladded__law_number_here)) (pgs_cons (pg_name (i := 4) nd rfl (Or.inl lk_ladded__law_part_here)) (pgs_nil)))) (pss_one (ps_dput hu (pv 2 rfl (Or.inl lk_ladded__law_parts)) (pv 3 rfl (Or.inl lk_ladded__law_number_here)) (pe_call OP hr lk_ladded__law_plus DLp.m DLp.F.kp DLp.b .nil pass0 (pa_Call (pe_dget2 hu (pv 2 rfl (Or.inl lk_ladded__law_parts)) (pv 3 rfl (Or.inl lk_ladded__law_number_here)) (pe_tup (pa_Constant (pe_int) (pa_Constant (pe_int) pa_nil))) ⟨rfl, rfl, rfl, rfl⟩) (pa_Name (pv 4 rfl (Or.inl lk_ladded__law_part_here)) pa_nil))) rfl)))
    (pss_one (ps_ret (pe_call OQ hr1 lk_ladded__law_of DOf.m DOf.F.kp DOf.b .nil pass0 (pa_Call (pe_call OP hr lk_ladded__law_plus DLp.m DLp.F.kp DLp.b .nil pass0 (pa_Subscript (pe_ix ix_tup (pv 0 rfl (Or.inl lk_ladded__law_one)) (pe_int) (fun _ _ => rfl)) (pa_Subscript (pe_ix ix_tup (pv 1 rfl (Or.inl lk_ladded__law_other)) (pe_int) (fun _ _ => rfl)) pa_nil))) (pa_Name (pv 2 rfl (Or.inl lk_ladded__law_parts)) pa_nil)))))), ?_⟩
  refine ⟨_, rfl, p, _, _, _, rfl, rfl, SqT.of hp, rfl, pp, vs1, kvs, rfl, hpp, pv1, fun dA hdA => ?_⟩
  rw [dr0.merge (rising_nodup wS.r)]
  have s1 : Same H (upd H dA (.dK kvs)) := same_new hdA _
  have e1 : upd H dA (.dK kvs) dA = some (.dK kvs) := upd_same
  have dr1 : DR K (upd H dA (.dK kvs)) kvs S.2 := dr0.same s1
  generalize upd H dA (.dK kvs) = H1 at s1 e1 dr1 ⊢
  have l2 : vs2.length = T.2.length := pr2.length
  refine ⟨_, rfl, q, _, _, _, rfl, rfl, SqT.of (s1 _ _ hq), rfl, pq, rfl, ⟨_, SqT.of (s1 _ _ hpq)⟩, ?_⟩
  refine for_tup (xs := vs2) (fun i σ H' => ∃ (kv pt : Option V) (kvs' : List (Key × V)), σ = [some (.ref p), some (.ref q), some (.ref dA), kv, pt] ∧ Same H H' ∧ H' dA = some (.dK kvs') ∧ DR K H' kvs' (addD S.2 (T.2.take i)) ∧ (∀ m ∈ addD S.2 (T.2.take i), Gd (102 * i + 101) m.2) ∧ (addD S.2 (T.2.take i)).length ≤ 12 + i)
    ⟨none, none, kvs, rfl, s1, e1, dr1, fun m hm => (wS.p m hm).1, by have := wS.l; show S.2.length ≤ 12 + 0; omega⟩ (fun i σ H' _ h => ?_) (fun i x σ H' hx h => ?_) (fun σ H' h => ?_)
  · obtain ⟨_, _, _, _, sm, _⟩ := h
    exact SqT.of (sm _ _ hpq)
  · obtain ⟨kv, pt, kvs', rfl, sm, ed, dr, gd', ln⟩ := h
    have hi : i < T.2.length := by rw [← l2]; exact (List.getElem?_eq_some_iff.mp hx).1
    have l12 := wT.l
    have hm := List.getElem?_eq_getElem hi
    have hmem : T.2[i] ∈ T.2 := List.getElem_mem hi
    obtain ⟨a', fv, rfl, sq, hf⟩ := (pair_get pr2 i _ _ hx hm).same sm
    refine ⟨a', _, rfl, sq, rfl, _, _, rfl, _, _, rfl, rfl, ?_⟩
    refine ⟨_, rfl, dA, rfl, .inl ⟨_, .inl ed⟩, _, rfl, (by show 2 ≤ sizeLine; decide), fun pN hN => ?_⟩
    have sN : Same H' (upd H' pN (.tup [.int 0, .int 1])) := same_new hN _
    have eN : upd H' pN (.tup [.int 0, .int 1]) pN = some (.tup [.int 0, .int 1]) := upd_same
    generalize upd H' pN (.tup [.int 0, .int 1]) = HN at sN eN ⊢
    have gg := get_gd (by omega) gd' T.2[i].1
    have gi := get_isF (dr.same sN) (SqT.of eN) T.2[i].1
    refine ⟨_, DGet.k (k := Sum.inl T.2[i].1) (sN _ _ ed), _, rfl, _, _, _, _, 102 * i + 101, 101, rfl, gi, hf.same sN, gg, (wT.p _ hmem).1, by omega, fun r H2 s2 f2 => ?_⟩
    have sN2 : Same H' H2 := sN.trans s2
    refine ⟨_, rfl, _, rfl, dA, _, rfl, DPut.k (k := Sum.inl T.2[i].1) (sN2 _ _ ed) (by rw [dr.length, PySem.sizeLine_eq]; omega), ?_⟩
    refine ⟨_, _, _, rfl, same_upd (sm.trans sN2) hdA, upd_same, ?_, ?_, ?_⟩
    · rw [take_next hm, addD_snoc]
      exact ((dr.same sN2).put f2).updD (sN2 _ _ ed)
    · rw [take_next hm, addD_snoc]
      exact putP_gd gd' (by omega) ((gg.plus (wT.p _ hmem).1).mono (by omega))
    · rw [take_next hm, addD_snoc]
      have := put_len (addD S.2 (T.2.take i)) T.2[i].1 (plF ((lookP (addD S.2 (T.2.take i)) T.2[i].1).getD (0, 1)) T.2[i].2)
      omega
  · obtain ⟨kv, pt, kvs', rfl, sm, ed, dr, gd', ln⟩ := h
    rw [l2, List.take_length] at dr ln gd'
    have l12 := wT.l
    refine ⟨_, rfl, p, _, _, _, rfl, rfl, SqT.of (sm _ _ hp), rfl, _, rfl, q, _, _, _, rfl, rfl, SqT.of (sm _ _ hq), rfl, _, _, _, _, 101, 101, rfl, hc.same sm, hcw.same sm, wS.c, wT.c, by decide, fun r1 H2 s2 f2 => ?_⟩
    exact ⟨_, rfl, r1, _, dA, kvs', _, rfl, f2, s2 _ _ ed, dr.same s2, by omega, fun m hm => (gd' m hm).1, fun r H3 s3 m3 => k _ _ (sm.trans (s2.trans s3)) m3⟩
theorem sc_lscaled : FnScope ["_law_one", "_law_part_here", "_law_parts", "_law_number_here", "_law_own"] ["_law_one", "_law_part_here"] (defScope s_lscaled) := ⟨rfl, rfl, rfl, by decide +kernel, rfl, by decide +kernel, by decide +kernel⟩
theorem lk_lscaled__law_one : (defScope s_lscaled).names.lookup ("_law_one" : Str) = some .local := by decide +kernel
theorem lk_lscaled__law_part_here : (defScope s_lscaled).names.lookup ("_law_part_here" : Str) = some .local := by decide +kernel
theorem lk_lscaled__law_parts : (defScope s_lscaled).names.lookup ("_law_parts" : Str) = some .local := by decide +kernel
theorem lk_lscaled__law_number_here : (defScope s_lscaled).names.lookup ("_law_number_here" : Str) = some .local := by decide +kernel
theorem lk_lscaled__law_own : (defScope s_lscaled).names.lookup ("_law_own" : Str) = some .local := by decide +kernel
theorem lk_lscaled__law_of : (defScope s_lscaled).names.lookup ("_law_of" : Str) = some .globalImplicit := by decide +kernel
theorem lk_lscaled__law_times : (defScope s_lscaled).names.lookup ("_law_times" : Str) = some .globalImplicit := by decide +kernel
theorem ok_lscaled {fDLt fDOf fDLw fDSh : Addr} {dDLt dDOf dDLw dDSh : FuncData} (F : Fun K "_law_scaled" "_law_scaled" s_lscaled f fd) (B : Blt mg) (DLt : DefAt K mg "_law_times" s_ltimes fDLt dDLt ["_law_one", "_law_other"]) (DOf : DefAt K mg "_law_of" s_of fDOf dDOf ["_law_constant", "_law_parts"]) (DLw : DefAt K mg "_law_low" s_low fDLw dDLw ["_law_top", "_law_bottom"]) (DSh : DefAt K mg "_law_shared" s_shared fDSh dDSh ["_law_one", "_law_other"]) : FnOk P w K mg base CX0 4 f fd ["_law_one", "_law_part_here"] (spScale K scaleP) := by
  have OT : FnOk P w K mg base CX0 3 fDLt dDLt ["_law_one", "_law_other"] (spBin K tiF) := ok_ltimes DLt.F B DLw DSh
  have OQ : FnOk P w K mg base CX0 1 fDOf dDOf ["_law_constant", "_law_parts"] (spOf K) := ok_of DOf.F B
  refine F.ok sc_lscaled (fun vs H Q E h => ?_) (fun cdv A outer s H vs Q E hr h => ?_)
  · obtain ⟨_, _, _, _, rfl, _⟩ := h
    rfl
  obtain ⟨_, v, S, a, rfl, ⟨p, cv, pv', rfl, hp, hc, pp, vs1, rfl, hpp, pr1⟩, hv, wS, ga, k⟩ := h
  have nd := sc_lscaled.nd
  have hu := hu_of hr
  have hr1 : Room 1 _ := hr.mono (by decide)
  refine ⟨_, pss_cons (ps_set (i := 2) nd rfl (Or.inl lk_lscaled__law_parts) (pe_dnewK))
    (pss_cons (ps_for PassesOwn.never rfl (pi_tup (pe_ix ix_tup (pv 0 rfl (Or.inl lk_lscaled__law_one)) (pe_int) (fun _ _ => rfl))) (pg_tup rfl (pgs_cons (pg_name (i := 3) nd rfl (Or.inl lk_lscaled__law_number_here)) (pgs_cons (pg_name (i := 4) nd rfl (Or.inl lk_lscaled__law_own)) (pgs_nil)))) (pss_one (ps_dput hu (pv 2 rfl (Or.inl lk_lscaled__law_parts)) (pv 3 rfl (Or.inl lk_lscaled__law_number_here)) (pe_call OT hr lk_lscaled__law_times DLt.m DLt.F.kp DLt.b .nil pass0 (pa_Name (pv 4 rfl (Or.inl lk_lscaled__law_own)) (pa_Name (pv 1 rfl (Or.inl lk_lscaled__law_part_here)) pa_nil))) rfl)))
    (pss_one (ps_ret (pe_call OQ hr1 lk_lscaled__law_of DOf.m DOf.F.kp DOf.b .nil pass0 (pa_Call (pe_call OT hr lk_lscaled__law_times DLt.m DLt.F.kp DLt.b .nil pass0 (pa_Subscript (pe_ix ix_tup (pv 0 rfl (Or.inl lk_lscaled__law_one)) (pe_int) (fun _ _ => rfl)) (pa_Name (pv 1 rfl (Or.inl lk_lscaled__law_part_here)) pa_nil))) (pa_Name (pv 2 rfl (Or.inl lk_lscaled__law_parts)) pa_nil)))))), ?_⟩
  intro dA hdA
  have s1 : Same H (upd H dA (.dK [])) := same_new hdA _
  have e1 : upd H dA (.dK []) dA = some (.dK []) := upd_same
  generalize upd H dA (.dK []) = H1 at s1 e1 ⊢
  have l1 : vs1.length = S.2.length := pr1.length
  have l12 := wS.l
  refine ⟨_, rfl, p, _, _, _, rfl, rfl, SqT.of (s1 _ _ hp), rfl, pp, rfl, ⟨_, SqT.of (s1 _ _ hpp)⟩, ?_⟩
  refine for_tup (xs := vs1) (fun i σ H' => ∃ (kv pt : Option V) (kvs' : List (Key × V)), σ = [some (.ref p), some v, some (.ref dA), kv, pt] ∧ Same H H' ∧ H' dA = some (.dK kvs') ∧ DR K H' kvs' (scaleD [] (S.2.take i) a) ∧ (∀ m ∈ scaleD [] (S.2.take i) a, Gd 202 m.2) ∧ (scaleD [] (S.2.take i) a).length ≤ i)
    ⟨none, none, [], rfl, s1, e1, .nil, (fun m hm => nomatch hm), Nat.le_refl _⟩ (fun i σ H' _ h => ?_) (fun i x σ H' hx h => ?_) (fun σ H' h => ?_)
  · obtain ⟨_, _, _, _, sm, _⟩ := h
    exact SqT.of (sm _ _ hpp)
  · obtain ⟨kv, pt, kvs', rfl, sm, ed, dr, gd', ln⟩ := h
    have hi : i < S.2.length := by rw [← l1]; exact (List.getElem?_eq_some_iff.mp hx).1
    have hm := List.getElem?_eq_getElem hi
    have hmem : S.2[i] ∈ S.2 := List.getElem_mem hi
    obtain ⟨a', fv, rfl, sq, hf⟩ := (pair_get pr1 i _ _ hx hm).same sm
    refine ⟨a', _, rfl, sq, rfl, _, _, rfl, _, _, rfl, rfl, ?_⟩
    refine ⟨_, rfl, _, rfl, _, _, _, _, 101, 101, rfl, hf, hv.same sm, (wS.p _ hmem).1, ga, by decide, fun r H2 s2 f2 => ?_⟩
    refine ⟨_, rfl, _, rfl, dA, _, rfl, DPut.k (k := Sum.inl S.2[i].1) (s2 _ _ ed) (by rw [dr.length, PySem.sizeLine_eq]; omega), ?_⟩
    refine ⟨_, _, _, rfl, same_upd (sm.trans s2) hdA, upd_same, ?_, ?_, ?_⟩
    · rw [take_next hm, scaleD_snoc]
      exact ((dr.same s2).put f2).updD (s2 _ _ ed)
    · rw [take_next hm, scaleD_snoc]
      exact putP_gd gd' (Nat.le_refl _) ((wS.p _ hmem).1.times ga)
    · rw [take_next hm, scaleD_snoc]
      have := put_len (scaleD [] (S.2.take i) a) S.2[i].1 (tiF S.2[i].2 a)
      omega
  · obtain ⟨kv, pt, kvs', rfl, sm, ed, dr, gd', ln⟩ := h
    rw [l1, List.take_length] at dr ln gd'
    refine ⟨_, rfl, p, _, _, _, rfl, rfl, SqT.of (sm _ _ hp), rfl, _, rfl, _, _, _, _, 101, 101, rfl, hc.same sm, hv.same sm, wS.c, ga, by decide, fun r1 H2 s2 f2 => ?_⟩
    refine ⟨_, rfl, r1, _, dA, kvs', _, rfl, f2, s2 _ _ ed, dr.same s2, by omega, fun m hm => (gd' m hm).1, fun r H3 s3 m3 => k _ _ (sm.trans (s2.trans s3)) ?_⟩
    rw [← scale_eq wS ga.1]
    exact m3
theorem paired_perm {α β : Type} {F : α → β → Prop} {xs ys : List α} (h : xs.Perm ys) : ∀ {zs : List β}, Paired F xs zs → ∃ zs', zs'.Perm zs ∧ Paired F ys zs' := by
  induction h with
  | nil => intro zs p; exact ⟨zs, List.Perm.refl _, p⟩
  | cons x _ ih =>
    intro zs p
    cases p with
    | cons r t =>
      obtain ⟨zs', h1, h2⟩ := ih t
      exact ⟨_ :: zs', h1.cons _, .cons r h2⟩
  | swap x y l =>
    intro zs p
    cases p with
    | cons r t =>
      cases t with
      | cons r2 t2 => exact ⟨_, List.Perm.swap _ _ _, .cons r2 (.cons r t2)⟩
  | trans _ _ ih1 ih2 =>
    intro zs p
    obtain ⟨z1, a1, b1⟩ := ih1 p
    obtain ⟨z2, a2, b2⟩ := ih2 b1
    exact ⟨z2, a2.trans a1, b2⟩
theorem DR.ms {K : PySem.W.Frag} {H : Hp} {kvs : List (Key × V)} {D : Pq} (h : DR K H kvs D) : ∃ ms : List (Int × V), kvs = ms.map (fun m => ((Sum.inl m.1 : Key), m.2)) ∧ Paired (fun (m : Int × V) (d : Int × Fq) => m.1 = d.1 ∧ IsF K H m.2 d.2) ms D := by
  unfold DR at h
  induction h with
  | nil => exact ⟨[], rfl, .nil⟩
  | @cons kv d kvs D r t ih =>
    obtain ⟨ms, e, p⟩ := ih
    refine ⟨(d.1, kv.2) :: ms, ?_, .cons ⟨rfl, r.2⟩ p⟩
    rw [List.map_cons, ← e, ← r.1]
theorem rise_of {α : Type} {F : α → (Int × Fq) → Prop} {k : α → Int} (hF : ∀ a b, F a b → k a = b.1) {xs : List α} {D : Pq} (p : Paired F xs D) : xs.Pairwise (fun a b => k a < k b) → D.Pairwise fun a b => a.1 < b.1 := by
  induction p with
  | nil => intro _; exact .nil
  | @cons x d xs D r t ih =>
    intro h
    rw [List.pairwise_cons] at h
    refine List.pairwise_cons.mpr ⟨?_, ih h.2⟩
    have hy := h.1
    clear ih h
    induction t with
    | nil => intro b hb; cases hb
    | cons r2 t2 ih =>
      intro b hb
      rcases List.mem_cons.mp hb with rfl | hb
      · have := hy _ (.head _)
        rw [hF _ _ r, hF _ _ r2] at this
        exact this
      · exact ih (fun y hy' => hy y (.tail _ hy')) b hb
theorem gd_flip {a : Fq} {j : Int} (h : Gd 101 a) (hj : j = 1 ∨ j = -1) : Gd 101 (a.1 * j, a.2) := by
  rcases hj with rfl | rfl
  · rw [Int.mul_one]; exact h
  · have e : a.1 * -1 = -a.1 := by omega
    rw [e]
    refine ⟨⟨h.1.1, ?_⟩, ?_, h.2.2⟩
    · show gd (-a.1) a.2 = 1
      rw [gd_neg_l]
      exact h.1.2
    · show (-a.1).natAbs < 2 ^ 101
      rw [Int.natAbs_neg]
      exact h.2.1
def spAlike (K : PySem.W.Frag) : Sp := fun vs H Q _ => ∃ u v S T c, vs = [u, v, .int c] ∧ Sm K H u S ∧ Sm K H v T ∧ Wf S ∧ Wf T ∧ S.2.length ≤ 6 ∧ T.2.length ≤ 6 ∧ ∀ r T' H', Same H H' → Sm K H' r T' → Wf T' → Q r H'
theorem sc_alike : FnScope ["_law_one", "_law_other", "_law_cell", "_law_parts", "_law_k", "_law_pair", "_law_way"] ["_law_one", "_law_other", "_law_cell"] (defScope s_alike) := ⟨rfl, rfl, rfl, by decide +kernel, rfl, by decide +kernel, by decide +kernel⟩
theorem lk_alike__law_one : (defScope s_alike).names.lookup ("_law_one" : Str) = some .local := by decide +kernel
theorem lk_alike__law_other : (defScope s_alike).names.lookup ("_law_other" : Str) = some .local := by decide +kernel
theorem lk_alike__law_cell : (defScope s_alike).names.lookup ("_law_cell" : Str) = some .local := by decide +kernel
theorem lk_alike__law_parts : (defScope s_alike).names.lookup ("_law_parts" : Str) = some .local := by decide +kernel
theorem lk_alike__law_k : (defScope s_alike).names.lookup ("_law_k" : Str) = some .local := by decide +kernel
theorem lk_alike__law_pair : (defScope s_alike).names.lookup ("_law_pair" : Str) = some .local := by decide +kernel
theorem lk_alike__law_way : (defScope s_alike).names.lookup ("_law_way" : Str) = some .local := by decide +kernel
theorem lk_alike__law_mixed : (defScope s_alike).names.lookup ("_law_mixed" : Str) = some .globalImplicit := by decide +kernel
theorem lk_alike_dict : (defScope s_alike).names.lookup ("dict" : Str) = some .globalImplicit := by decide +kernel
theorem lk_alike_enumerate : (defScope s_alike).names.lookup ("enumerate" : Str) = some .globalImplicit := by decide +kernel
theorem lk_alike_sorted : (defScope s_alike).names.lookup ("sorted" : Str) = some .globalImplicit := by decide +kernel
theorem lk_alike_tuple : (defScope s_alike).names.lookup ("tuple" : Str) = some .globalImplicit := by decide +kernel
theorem ok_alike {fDMx : Addr} {dDMx : FuncData} (F : Fun K "_law_alike" "_law_alike" s_alike f fd) (B : Blt mg) (DMx : DefAt K mg "_law_mixed" s_mixed fDMx dDMx ["_law_cell", "_law_k"]) : FnOk P w K mg base CX0 2 f fd ["_law_one", "_law_other", "_law_cell"] (spAlike K) := by
  have OM : FnOk P w K mg base CX0 1 fDMx dDMx ["_law_cell", "_law_k"] spMixed := ok_mixed DMx.F
  refine F.ok sc_alike (fun vs H Q E h => ?_) (fun cdv A outer s H vs Q E hr h => ?_)
  · obtain ⟨_, _, _, _, _, rfl, _⟩ := h
    rfl
  obtain ⟨_, _, S, T, c, rfl, ⟨p, cv, pv', rfl, hp, hc, pp, vs1, rfl, hpp, pr1⟩, ⟨q, cw, pw', rfl, hq, hcw, pq, vs2, rfl, hpq, pr2⟩, wS, wT, lS, lT, k⟩ := h
  obtain ⟨kvs, pv2, dr0⟩ := pairs_of_ps pr2
  have nd := sc_alike.nd
  have hu := hu_of hr
  refine ⟨_, pss_cons (ps_set (i := 3) nd rfl (Or.inl lk_alike__law_parts) (pe_callTy (call_dictT (K := K) rfl rfl) lk_alike_dict B.dict bt_dict (pa_Subscript (pe_ix ix_tup (pv 1 rfl (Or.inl lk_alike__law_other)) (pe_int) (fun _ _ => rfl)) pa_nil)))
    (pss_cons (ps_for PassesOwn.never rfl (pi_enumT lk_alike_enumerate B.enumerate (pa_Subscript (pe_ix ix_tup (pv 0 rfl (Or.inl lk_alike__law_one)) (pe_int) (fun _ _ => rfl)) pa_nil)) (pg_tup rfl (pgs_cons (pg_name (i := 4) nd rfl (Or.inl lk_alike__law_k)) (pgs_cons (pg_name (i := 5) nd rfl (Or.inl lk_alike__law_pair)) (pgs_nil)))) (pss_cons (ps_set (i := 6) nd rfl (Or.inl lk_alike__law_way) (pe_op op_mod (pe_op op_fdiv (pe_call OM hr lk_alike__law_mixed DMx.m DMx.F.kp DMx.b .nil pass0 (pa_Name (pv 2 rfl (Or.inl lk_alike__law_cell)) (pa_Name (pv 4 rfl (Or.inl lk_alike__law_k)) pa_nil))) (pe_int)) (pe_int)))
    (pss_one (ps_if (pt_cmpR op_gt (pv 6 rfl (Or.inl lk_alike__law_way)) (pe_int) (nomark _)) (pss_one (ps_dput hu (pv 3 rfl (Or.inl lk_alike__law_parts)) (pe_ix ix_tup (pv 5 rfl (Or.inl lk_alike__law_pair)) (pe_int) (fun _ _ => rfl)) (pe_tup (pa_BinOp (pe_op op_mul (pe_ix ix_tup (pe_ix ix_tup (pv 5 rfl (Or.inl lk_alike__law_pair)) (pe_int) (fun _ _ => rfl)) (pe_int) (fun _ _ => rfl)) (pe_ix ix_list (pe_lst (pa_Constant (pe_int) (pa_Constant (pe_int) (pa_UnaryOp (pe_un un_neg (pe_int)) pa_nil)))) (pv 6 rfl (Or.inl lk_alike__law_way)) (fun _ _ => rfl))) (pa_Subscript (pe_ix ix_tup (pe_ix ix_tup (pv 5 rfl (Or.inl lk_alike__law_pair)) (pe_int) (fun _ _ => rfl)) (pe_int) (fun _ _ => rfl)) pa_nil))) rfl)) (pss_nil)))))
    (pss_one (ps_ret (pe_tup (pa_Subscript (pe_ix ix_tup (pv 1 rfl (Or.inl lk_alike__law_other)) (pe_int) (fun _ _ => rfl)) (pa_Call (pe_callTy call_tuple_of lk_alike_tuple B.tuple bt_tuple (pa_Call (pe_callB (call_sortedItems rfl) lk_alike_sorted B.sorted bt_sorted (pa_Call (pe_bm0 PySem.F.plainAttrs_dict PySem.F.slot_dict_items PySem.F.type_dict_items mt_items (pv 3 rfl (Or.inl lk_alike__law_parts))) pa_nil)) pa_nil)) pa_nil)))))), ?_⟩
  refine ⟨_, rfl, q, _, _, _, rfl, rfl, SqT.of hq, rfl, pq, vs2, kvs, rfl, hpq, pv2, fun dA hdA => ?_⟩
  rw [dr0.merge (rising_nodup wT.r)]
  have s1 : Same H (upd H dA (.dK kvs)) := same_new hdA _
  have e1 : upd H dA (.dK kvs) dA = some (.dK kvs) := upd_same
  have dr1 : DR K (upd H dA (.dK kvs)) kvs T.2 := dr0.same s1
  generalize upd H dA (.dK kvs) = H1 at s1 e1 dr1 ⊢
  have l1 : vs1.length = S.2.length := pr1.length
  refine ⟨_, rfl, p, _, _, _, rfl, rfl, SqT.of (s1 _ _ hp), rfl, pp, rfl, ⟨_, s1 _ _ hpp⟩, ?_⟩
  refine for_enumT (xs := vs1) (fun i σ H' => ∃ (ks pt wy : Option V) (kvs' : List (Key × V)) (D : Pq), σ = [some (.ref p), some (.ref q), some (.int c), some (.ref dA), ks, pt, wy] ∧ Same H H' ∧ H' dA = some (.dK kvs') ∧ DR K H' kvs' D ∧ (∀ m ∈ D, Gd 101 m.2 ∧ m.2.1 ≠ 0 ∧ 0 ≤ m.1 ∧ m.1 < 60) ∧ D.length ≤ 6 + i)
    ⟨none, none, none, kvs, T.2, rfl, s1, e1, dr1, wT.p, by omega⟩ (fun i σ H' _ h => ?_) (fun i x σ H' hx h pe he => ?_) (fun σ H' h => ?_)
  · obtain ⟨_, _, _, _, _, _, sm, _⟩ := h
    exact sm _ _ hpp
  · obtain ⟨ks, pt, wy, kvs', D, rfl, sm, ed, dr, ok', ln⟩ := h
    have hi : i < S.2.length := by rw [← l1]; exact (List.getElem?_eq_some_iff.mp hx).1
    have hm := List.getElem?_eq_getElem hi
    have hmem : S.2[i] ∈ S.2 := List.getElem_mem hi
    obtain ⟨a', fv, rfl, sq, hf⟩ := (pair_get pr1 i _ _ hx hm).same sm
    obtain ⟨pf, rfl, sf⟩ := hf
    have s2 : Same H' (upd H' pe (.tup [.int i, .ref a'])) := same_new he _
    have e2 : upd H' pe (.tup [.int i, .ref a']) pe = some (.tup [.int i, .ref a']) := upd_same
    generalize upd H' pe (.tup [.int i, .ref a']) = H2 at s2 e2 ⊢
    refine ⟨pe, _, rfl, SqT.of e2, rfl, _, _, rfl, _, _, rfl, rfl, ?_⟩
    refine ⟨_, rfl, _, rfl, c, i, rfl, by omega, by omega, fun m1 a1 b1 => ?_⟩
    refine ⟨_, _, rfl, rfl, ⟨by decide, by decide⟩, _, _, rfl, rfl, (by show (0 : Int) < 3; decide), ?_⟩
    have w0 := Int.emod_nonneg (m1 / 7) (show (3 : Int) ≠ 0 by decide)
    have w1 := Int.emod_lt_of_pos (m1 / 7) (show (0 : Int) < 3 by decide)
    dsimp only
    obtain ⟨way, hw⟩ : ∃ z, m1 / 7 % 3 = z := ⟨_, rfl⟩
    rw [hw] at w0 w1 ⊢
    refine ⟨_, rfl, _, _, rfl, rfl, _, rfl, ?_⟩
    by_cases wz : 0 < way
    · refine iteY (decide_eq_true wz) ?_
      refine ⟨_, rfl, a', _, _, _, rfl, rfl, s2.seqT sq, rfl, pf, _, _, _, rfl, rfl, s2.seqT sf, rfl, 1, rfl, (by show 3 ≤ sizeLine; decide), fun l hl => ?_⟩
      dsimp only
      have s3 : Same H2 (upd H2 l (.lst [.int 0, .int 1, .int (-1)])) := same_new hl _
      have e3 : upd H2 l (.lst [.int 0, .int 1, .int (-1)]) l = some (.lst [.int 0, .int 1, .int (-1)]) := upd_same
      generalize upd H2 l (.lst [.int 0, .int 1, .int (-1)]) = H3 at s3 e3 ⊢
      obtain ⟨j, ej, hj⟩ : ∃ j : Int, atI ([.int 0, .int 1, .int (-1)] : List V) way = some (.int j) ∧ (j = 1 ∨ j = -1) := by
        rcases (by omega : way = 1 ∨ way = 2) with e | e <;> rw [e]
        · exact ⟨1, rfl, .inl rfl⟩
        · exact ⟨-1, rfl, .inr rfl⟩
      have s23 : Same H' H3 := s2.trans s3
      refine ⟨_, rfl, l, _, _, _, rfl, rfl, SqL.of e3, ej, _, _, rfl, rfl, .inr ⟨by omega, by omega⟩, _, rfl, a', _, _, _, rfl, rfl, s23.seqT sq, rfl, pf, _, _, _, rfl, rfl, s23.seqT sf, rfl, (by show 2 ≤ sizeLine; decide), fun pn hn => ?_⟩
      have s4 : Same H3 (upd H3 pn (.tup [.int (S.2[i].2.1 * j), .int S.2[i].2.2])) := same_new hn _
      have e4 : upd H3 pn (.tup [.int (S.2[i].2.1 * j), .int S.2[i].2.2]) pn = some (.tup [.int (S.2[i].2.1 * j), .int S.2[i].2.2]) := upd_same
      generalize upd H3 pn (.tup [.int (S.2[i].2.1 * j), .int S.2[i].2.2]) = H4 at s4 e4 ⊢
      have s234 : Same H' H4 := s23.trans s4
      obtain ⟨g1, g2, g3, g4⟩ := wS.p _ hmem
      refine ⟨_, rfl, _, rfl, a', _, _, _, rfl, rfl, s234.seqT sq, rfl, dA, _, rfl, DPut.k (k := Sum.inl S.2[i].1) (s234 _ _ ed) (by rw [dr.length, PySem.sizeLine_eq]; omega), ?_⟩
      refine ⟨_, _, _, _, putP D S.2[i].1 (S.2[i].2.1 * j, S.2[i].2.2), rfl, same_upd (sm.trans s234) hdA, upd_same, ((dr.same s234).put ⟨pn, rfl, SqT.of e4⟩).updD (s234 _ _ ed), fun m hm' => ?_, ?_⟩
      · rcases put_mem hm' with rfl | hm'
        · refine ⟨gd_flip g1 hj, ?_, g3, g4⟩
          show S.2[i].2.1 * j ≠ 0
          exact Int.mul_ne_zero g2 (by omega)
        · exact ok' m hm'
      · have := put_len D S.2[i].1 (S.2[i].2.1 * j, S.2[i].2.2)
        omega
    · refine iteN (decide_eq_false wz) ?_
      exact ⟨_, _, _, kvs', D, rfl, sm.trans s2, s2 _ _ ed, dr.same s2, ok', by omega⟩
  · obtain ⟨ks, pt, wy, kvs', D, rfl, sm, ed, dr, ok', ln⟩ := h
    obtain ⟨ms, em, pm⟩ := dr.ms
    subst em
    have lm : ms.length = D.length := pm.length
    refine ⟨_, rfl, q, _, _, _, rfl, rfl, SqT.of (sm _ _ hq), rfl, ?_⟩
    refine ⟨_, rfl, .inr (.inr (.inl ⟨rfl, .inl ⟨_, ed⟩⟩)), dA, _, rfl, rfl, .inl ed, fun vw hvw => ?_⟩
    have s5 : Same H' (upd H' vw (.ext (IsItems vw dA))) := same_new hvw _
    have e5 : upd H' vw (.ext (IsItems vw dA)) vw = some (.ext (IsItems vw dA)) := upd_same
    generalize upd H' vw (.ext (IsItems vw dA)) = H5 at s5 e5 ⊢
    refine ⟨vw, dA, ms, rfl, e5, .inl (s5 _ _ ed), by omega, fun l as ns H6 s6 el pa perm rise => ?_⟩
    obtain ⟨D', pD, pn⟩ := paired_perm perm.symm (Paired.mapP pm fun _ _ q => (⟨q.1, (q.2.same s5).same s6⟩ : _ ∧ IsF K H6 _ _))
    have prs : Paired (Pr K H6) (as.map V.ref) D' := by
      clear perm pD rise el
      induction pa generalizing D' with
      | nil => cases pn; exact .nil
      | cons r t ih =>
        cases pn with
        | cons r2 t2 =>
          refine .cons ⟨_, _, rfl, ?_, r2.2⟩ (ih _ t2)
          rw [← r2.1]
          exact SqT.of r
    refine ⟨l, _, rfl, .inl ⟨SqL.of el, fun t ht => ?_⟩⟩
    have s7 : Same H6 (upd H6 t (.tup (as.map V.ref))) := same_new ht _
    refine ⟨(by show 2 ≤ sizeLine; decide), fun p8 h8 => ?_⟩
    have s8 : Same (upd H6 t (.tup (as.map V.ref))) (upd (upd H6 t (.tup (as.map V.ref))) p8 (.tup [cw, .ref t])) := same_new h8 _
    refine k _ (T.1, D') _ (sm.trans (s5.trans (s6.trans (s7.trans s8)))) ⟨p8, _, _, rfl, upd_same, ((((hcw.same sm).same s5).same s6).same s7).same s8, t, _, rfl, s8 _ _ upd_same, Paired.mapP prs fun _ _ q => (q.same s7).same s8⟩ ⟨wT.c, fun m hm => ok' m (pD.mem_iff.mp hm), rise_of (k := fun m => m.1) (fun a b h => h.1) pn rise, ?_⟩
    show D'.length ≤ 12
    rw [pD.length_eq]
    omega
end
end Pw


set_option Elab.async false
set_option linter.all false
set_option maxRecDepth 100000
set_option maxHeartbeats 4000000
namespace Pw
open PySem L2
seal PE PT PW PA PS PSs PG PGs PI PIf
section
variable {P : Program} {w : World} {K : PySem.W.Frag} {mg : Str → Option Value} {base : Heap} {f : Addr} {fd : FuncData}
theorem alikeF {K : PySem.W.Frag} {H : Hp} {n : Nat} {u v : V} {a : Fq} (h : IsF K H u a) (k : IsF K H v a) : Alike K H (n + 1) u v := by
  obtain ⟨p, rfl, hp⟩ := h
  obtain ⟨q, rfl, hq⟩ := k
  exact Alike.tup hp hq (.cons (Alike.int _) (.cons (Alike.int _) .nil))
theorem alikeP {K : PySem.W.Frag} {H : Hp} {n : Nat} {u v : V} {m : Int × Fq} (h : Pr K H u m) (k : Pr K H v m) : Alike K H (n + 2) u v := by
  obtain ⟨p, fv, rfl, hp, hf⟩ := h
  obtain ⟨q, fw, rfl, hq, hg⟩ := k
  exact Alike.tup hp hq (.cons (Alike.int _) (.cons (alikeF hf hg) .nil))
theorem alikePs {K : PySem.W.Frag} {H : Hp} {n : Nat} : ∀ {us vs : List V} {ps : Pq}, Paired (Pr K H) us ps → Paired (Pr K H) vs ps → Paired (Alike K H (n + 2)) us vs
  | _, _, _, .nil, .nil => .nil
  | _, _, _, .cons a t, .cons b u => .cons (alikeP a b) (alikePs t u)
theorem rep_snoc {α : Type} (i : Nat) (x : α) : List.replicate i x ++ [x] = List.replicate (i + 1) x := List.replicate_succ'.symm
theorem rep_all (n : Nat) : (List.replicate n true).all id = true := by
  rw [List.all_eq_true]
  intro x hx
  exact (List.mem_replicate.mp hx).2
def spIs (K : PySem.W.Frag) : Sp := fun vs H Q _ => ∃ u v S, vs = [u, v] ∧ Sm K H u S ∧ Sm K H v S ∧ S.2.length ≤ 100 ∧ ∀ H', Same H H' → Q (.bl true) H'
theorem sc_is : FnScope ["_law_found", "_law_due", "_law_some"] ["_law_found", "_law_due"] (defScope s_is) := ⟨rfl, rfl, rfl, by decide +kernel, rfl, by decide +kernel, by decide +kernel⟩
theorem lk_is__law_found : (defScope s_is).names.lookup ("_law_found" : Str) = some .local := by decide +kernel
theorem lk_is__law_due : (defScope s_is).names.lookup ("_law_due" : Str) = some .local := by decide +kernel
theorem lk_is__law_some : (defScope s_is).names.lookup ("_law_some" : Str) = some .local := by decide +kernel
theorem lk_is_all : (defScope s_is).names.lookup ("all" : Str) = some .globalImplicit := by decide +kernel
theorem lk_is_isinstance : (defScope s_is).names.lookup ("isinstance" : Str) = some .globalImplicit := by decide +kernel
theorem lk_is_tuple : (defScope s_is).names.lookup ("tuple" : Str) = some .globalImplicit := by decide +kernel
theorem ok_is {fDW : Addr} {dDW : FuncData} (F : Fun K "_law_is" "_law_is" s_is f fd) (B : Blt mg) (DW : DefAt K mg "_law_whole" s_whole fDW dDW ["_law_found"]) : FnOk P w K mg base CX0 2 f fd ["_law_found", "_law_due"] (spIs K) := by
  have OW : FnOk P w K mg base CX0 1 fDW dDW ["_law_found"] spWhole := ok_whole DW.F B
  refine F.ok sc_is (fun vs H Q E h => ?_) (fun cdv A outer s H vs Q E hr h => ?_)
  · obtain ⟨_, _, _, rfl, _⟩ := h
    rfl
  obtain ⟨_, _, S, rfl, ⟨p, cv, pv', rfl, hp, hc, pp, vs1, rfl, hpp, pr1⟩, ⟨q, cw, pw', rfl, hq, hcw, pq, vs2, rfl, hpq, pr2⟩, l100, k⟩ := h
  have nd := sc_is.nd
  refine ⟨_, pss_cons (ps_if (PW.pt (pw_or (pt_not (pt_val (pe_callB (call_isiTup (K := K) rfl) lk_is_isinstance B.isinstance bt_isinstance (pa_Name (pv 0 rfl (Or.inl lk_is__law_found)) (pa_Name (pe_bltn (v := .ty "tuple") lk_is_tuple B.tuple bt_tuple rfl) pa_nil))))) (pw_or (pt_cmpR (op_neA (K := K) rfl hr.units) (pv 0 rfl (Or.inl lk_is__law_found)) (pv 1 rfl (Or.inl lk_is__law_due)) (nomark _)) (pw_or1 (pt_not (pt_val (pe_callB (call_isiTup (K := K) rfl) lk_is_isinstance B.isinstance bt_isinstance (pa_Subscript (pe_ix ix_tup (pv 0 rfl (Or.inl lk_is__law_found)) (pe_int) (fun _ _ => rfl)) (pa_Name (pe_bltn (v := .ty "tuple") lk_is_tuple B.tuple bt_tuple rfl) pa_nil))))))))) (pss_one (ps_ret (pe_bl))) (pss_nil))
    (pss_cons (ps_set (i := 2) nd rfl (Or.inl lk_is__law_some) (pe_op op_cat (pe_lst (pa_Subscript (pe_ix ix_tup (pv 0 rfl (Or.inl lk_is__law_found)) (pe_int) (fun _ _ => rfl)) pa_nil)) (pe_comp rfl (frees_of ["_law_pair"] [] ["_law_found", "_law_due", "_law_some"] (by decide +kernel)) (noFree rfl) (by decide +kernel) rfl (by decide +kernel) (fun y hy => PySem.mem_of_lookup hy) (pi_tup (pe_ix ix_tup (pv 0 rfl (Or.inl lk_is__law_found)) (pe_int) (fun _ _ => rfl))) (fun cl C s H fp pins => pg_name (i := 0) (show (["_law_pair"] : List Str).Nodup by decide +kernel) rfl (Or.inl (c_loc (by decide +kernel))) (.inr (c_loc (by decide +kernel)))) (fun cl C s H fp pins => pif_nil) (fun cl C s H fp pins => pe_ix (ix_tupK (K := K) rfl) (pv 0 rfl (c_vloc (by decide +kernel))) (pe_int) (fun _ _ => rfl)))))
    (pss_cons (ps_if (pt_not (pt_val (pe_callB (call_all rfl) lk_is_all B.all bt_all (pa_ListComp (pe_comp rfl (frees_of ["_law_one"] [] ["_law_found", "_law_due", "_law_some"] (by decide +kernel)) (noFree rfl) (by decide +kernel) rfl (by decide +kernel) (fun y hy => PySem.mem_of_lookup hy) (pi_list (pv 2 rfl (Or.inl lk_is__law_some))) (fun cl C s H fp pins => pg_name (i := 0) (show (["_law_one"] : List Str).Nodup by decide +kernel) rfl (Or.inl (c_loc (by decide +kernel))) (.inr (c_loc (by decide +kernel)))) (fun cl C s H fp pins => pif_nil) (fun cl C s H fp pins => pe_and (pe_callB (call_isiTup (K := K) rfl) (c_gl (by decide +kernel)) B.isinstance bt_isinstance (pa_Name (pv 0 rfl (c_vloc (by decide +kernel))) (pa_Name (pe_bltn (v := .ty "tuple") (c_gl (by decide +kernel)) B.tuple bt_tuple rfl) pa_nil))) (pe_and (pe_call OW hr (c_gl (by decide +kernel)) DW.m DW.F.kp DW.b .nil pass0 (pa_Subscript (pe_ix (ix_tupK (K := K) rfl) (pv 0 rfl (c_vloc (by decide +kernel))) (pe_int) (fun _ _ => rfl)) pa_nil)) (pe_one (pe_call OW hr (c_gl (by decide +kernel)) DW.m DW.F.kp DW.b .nil pass0 (pa_Subscript (pe_ix (ix_tupK (K := K) rfl) (pv 0 rfl (c_vloc (by decide +kernel))) (pe_int) (fun _ _ => rfl)) pa_nil)))))) pa_nil)))) (pss_one (ps_ret (pe_bl))) (pss_nil))
    (pss_one (ps_ret (pe_callB (call_all rfl) lk_is_all B.all bt_all (pa_ListComp (pe_comp rfl (frees_of ["_law_pair"] [] ["_law_found", "_law_due", "_law_some"] (by decide +kernel)) (noFree rfl) (by decide +kernel) rfl (by decide +kernel) (fun y hy => PySem.mem_of_lookup hy) (pi_tup (pe_ix ix_tup (pv 0 rfl (Or.inl lk_is__law_found)) (pe_int) (fun _ _ => rfl))) (fun cl C s H fp pins => pg_name (i := 0) (show (["_law_pair"] : List Str).Nodup by decide +kernel) rfl (Or.inl (c_loc (by decide +kernel))) (.inr (c_loc (by decide +kernel)))) (fun cl C s H fp pins => pif_nil) (fun cl C s H fp pins => pe_and (pe_callB (call_isiTup (K := K) rfl) (c_gl (by decide +kernel)) B.isinstance bt_isinstance (pa_Name (pv 0 rfl (c_vloc (by decide +kernel))) (pa_Name (pe_bltn (v := .ty "tuple") (c_gl (by decide +kernel)) B.tuple bt_tuple rfl) pa_nil))) (pe_one (pe_call OW hr (c_gl (by decide +kernel)) DW.m DW.F.kp DW.b .nil pass0 (pa_Subscript (pe_ix (ix_tupK (K := K) rfl) (pv 0 rfl (c_vloc (by decide +kernel))) (pe_int) (fun _ _ => rfl)) pa_nil))))) pa_nil)))))), ?_⟩
  have al : Paired (Alike K H 40) [cv, .ref pp] [cw, .ref pq] := .cons (alikeF hc hcw) (.cons (Alike.tup (SqT.of hpp) (SqT.of hpq) (alikePs pr1 pr2)) .nil)
  refine ⟨_, rfl, p, _, rfl, SqT.of hp, true, rfl, iteN rfl ?_⟩
  refine ⟨_, rfl, _, rfl, p, q, _, _, rfl, rfl, .inl ⟨SqT.of hp, SqT.of hq⟩, al, false, rfl, iteN rfl ?_⟩
  refine ⟨_, rfl, p, _, _, _, rfl, rfl, SqT.of hp, rfl, pp, _, rfl, SqT.of hpp, true, rfl, iteN rfl ?_⟩
  -- the list of fractions
  refine ⟨_, rfl, p, _, _, _, rfl, rfl, SqT.of hp, rfl, (by show 1 ≤ sizeLine; decide), fun l1 h1 => ?_⟩
  have s1 : Same H (upd H l1 (.lst [cv])) := same_new h1 _
  have e1 : upd H l1 (.lst [cv]) l1 = some (.lst [cv]) := upd_same
  generalize upd H l1 (.lst [cv]) = H1 at s1 e1 ⊢
  have ln : vs1.length = S.2.length := pr1.length
  refine ⟨_, rfl, p, _, _, _, rfl, rfl, SqT.of (s1 _ _ hp), rfl, pp, rfl, ⟨_, SqT.of (s1 _ _ hpp)⟩, fun D1 hD1 => ?_⟩
  refine comp_same (J := Itt K pp) (xs := vs1) hD1 (by rw [ln, PySem.sizeLine_eq]; omega) (goT (SqT.of (s1 _ _ hpp))) (stT (SqT.of (s1 _ _ hpp))) (yT (SqT.of (s1 _ _ hpp)))
    (fun i ys σ H' => (∃ z, σ = [z]) ∧ Paired (IsF K H') ys ((S.2.take i).map (·.2))) ⟨⟨_, rfl⟩, .nil⟩ ?_ ?_
  · rintro i x ys σ H' hx ⟨⟨z, rfl⟩, pr⟩ eD sm Ry Rn hY hN
    have hi : i < S.2.length := by rw [← ln]; exact (List.getElem?_eq_some_iff.mp hx).1
    have hm := List.getElem?_eq_getElem hi
    have sH : Same (hid D1 H') H' := hid_le
    have s1' : Same H (hid D1 H') := s1.trans sm
    obtain ⟨a', fv, rfl, sq, hf⟩ := (pair_get pr1 i _ _ hx hm).same s1'
    refine ⟨_, rfl, a', _, _, _, rfl, rfl, sH.seqT sq, rfl, hY _ _ _ Same.refl' ⟨⟨_, rfl⟩, ?_⟩⟩
    rw [take_next hm, List.map_append]
    exact Paired.snoc pr hf
  rintro ys σ H' ⟨_, pr⟩ eD sm
  rw [ln, List.take_length] at pr
  have sH : Same (hid D1 H') H' := hid_le
  have s2 : Same H1 H' := sm.trans sH
  have ly : ys.length = S.2.length := by rw [pr.length, List.length_map]
  refine ⟨l1, D1, _, _, rfl, rfl, s2 _ _ e1, eD, by rw [ly, PySem.sizeLine_eq]; show 1 + S.2.length ≤ _; omega, fun l3 h3 => ?_⟩
  have s3 : Same H' (upd H' l3 (.lst ([cv] ++ ys))) := same_new h3 _
  have e3 : upd H' l3 (.lst ([cv] ++ ys)) l3 = some (.lst ([cv] ++ ys)) := upd_same
  generalize upd H' l3 (.lst ([cv] ++ ys)) = H3 at s3 e3 ⊢
  have sA : Same H H3 := s1.trans (s2.trans s3)
  have prA : Paired (IsF K H3) ([cv] ++ ys) (S.1 :: S.2.map (·.2)) := .cons (hc.same sA) (Paired.mapP pr fun _ _ q => (q.same sH).same s3)
  have lA : ([cv] ++ ys).length = S.2.length + 1 := by rw [List.length_append, ly]; show 1 + _ = _; omega
  generalize [cv] ++ ys = ws at e3 prA lA
  clear pr eD sm
  -- each is a tuple of whole numbers
  refine ⟨_, rfl, l3, rfl, ⟨_, SqL.of e3⟩, fun D2 hD2 => ?_⟩
  refine comp_same (J := Itl K l3) (xs := ws) hD2 (by rw [lA, PySem.sizeLine_eq]; omega) (goL (SqL.of e3)) (stL (SqL.of e3)) (yL (SqL.of e3))
    (fun i ys σ H' => (∃ z, σ = [z]) ∧ ys = List.replicate i (V.bl true)) ⟨⟨_, rfl⟩, rfl⟩ ?_ ?_
  · rintro i x ys σ H' hx ⟨⟨z, rfl⟩, rfl⟩ eD sm Ry Rn hY hN
    have lw := prA.length
    have hi : i < (S.1 :: S.2.map (·.2)).length := by rw [← lw]; exact (List.getElem?_eq_some_iff.mp hx).1
    obtain ⟨pa, rfl, sa⟩ := (pair_get prA i _ _ hx (List.getElem?_eq_getElem hi)).same (sm.trans hid_le)
    refine ⟨_, rfl, pa, _, rfl, sa, true, rfl, iteY rfl ?_⟩
    refine ⟨_, rfl, pa, _, _, _, rfl, rfl, sa, rfl, _, rfl, .int _, true, rfl, iteY rfl ?_⟩
    refine ⟨_, rfl, pa, _, _, _, rfl, rfl, sa, rfl, _, rfl, .int _, hY _ _ _ Same.refl' ⟨⟨_, rfl⟩, rep_snoc i (V.bl true)⟩⟩
  rintro ys σ H4 ⟨_, rfl⟩ eD sm
  have s4 : Same H3 H4 := sm.trans hid_le
  refine ⟨D2, List.replicate ws.length true, rfl, SqL.of (by rw [List.map_replicate]; exact eD), ?_⟩
  rw [rep_all]
  refine ⟨true, rfl, iteN rfl ?_⟩
  have sB : Same H H4 := sA.trans s4
  -- each pair is a tuple with a whole number ahead
  refine ⟨_, rfl, p, _, _, _, rfl, rfl, SqT.of (sB _ _ hp), rfl, pp, rfl, ⟨_, SqT.of (sB _ _ hpp)⟩, fun D3 hD3 => ?_⟩
  refine comp_same (J := Itt K pp) (xs := vs1) hD3 (by rw [ln, PySem.sizeLine_eq]; omega) (goT (SqT.of (sB _ _ hpp))) (stT (SqT.of (sB _ _ hpp))) (yT (SqT.of (sB _ _ hpp)))
    (fun i ys σ H' => (∃ z, σ = [z]) ∧ ys = List.replicate i (V.bl true)) ⟨⟨_, rfl⟩, rfl⟩ ?_ ?_
  · rintro i x ys σ H' hx ⟨⟨z, rfl⟩, rfl⟩ eD' sm' Ry Rn hY hN
    have hi : i < S.2.length := by rw [← ln]; exact (List.getElem?_eq_some_iff.mp hx).1
    obtain ⟨a', fv, rfl, sq, hf⟩ := (pair_get pr1 i _ _ hx (List.getElem?_eq_getElem hi)).same (sB.trans (sm'.trans hid_le))
    refine ⟨_, rfl, a', _, rfl, sq, true, rfl, iteY rfl ?_⟩
    refine ⟨_, rfl, a', _, _, _, rfl, rfl, sq, rfl, _, rfl, .int _, hY _ _ _ Same.refl' ⟨⟨_, rfl⟩, rep_snoc i (V.bl true)⟩⟩
  rintro ys σ H5 ⟨_, rfl⟩ eD' sm'
  have s5 : Same H4 H5 := sm'.trans hid_le
  refine ⟨D3, List.replicate vs1.length true, rfl, SqL.of (by rw [List.map_replicate]; exact eD'), ?_⟩
  rw [rep_all]
  exact k _ (sB.trans s5)
end
end Pw


set_option Elab.async false
set_option linter.all false
set_option maxRecDepth 100000
set_option maxHeartbeats 4000000
namespace Pw
open PySem L2
seal PE PT PW PA PS PSs PG PGs PI PIf
section
variable {P : Program} {w : World} {K : PySem.W.Frag} {mg : Str → Option Value} {base : Heap} {f : Addr} {fd : FuncData}
structure Errs (K : PySem.W.Frag) (mg : Str → Option Value) (CN CP C1 C2 C3 C4 C5 C6 C7 : Addr) : Prop where
  nl : NotL K mg CN
  mp : mg "PlanError" = some (.ref CP)
  ep : PySem.W.excIn K CP veB "ValueError.__new__" = true
  m1 : mg "BadEnds" = some (.ref C1)
  m2 : mg "BadFraction" = some (.ref C2)
  m3 : mg "BadGoal" = some (.ref C3)
  m4 : mg "BadName" = some (.ref C4)
  m5 : mg "BadTable" = some (.ref C5)
  m6 : mg "BadText" = some (.ref C6)
  m7 : mg "TooMany" = some (.ref C7)
  ve : mg "ValueError" = none
  mro : PySem.W.mroIn K CN (.ref CP) = some true
  lk : ExcLook K CN
  cl : (PySem.W.clsIn K CN).isSome = true
  no : PySem.W.kitAny K (.ref CN) [.ref C1, .ref C2, .ref C3, .ref C4, .ref C5, .ref C6, .ref C7] = some false
  me : PySem.W.kitOne K (.ref CN) (.ref CN) = some true
  va : PySem.W.kitOne K (.ref CN) (.type "ValueError") = some true
def spRef (K : PySem.W.Frag) : Sp := fun vs H Q _ => ∃ u v S T, vs = [u, v] ∧ Sm K H u S ∧ Sm K H v T ∧ Wf S ∧ Wf T ∧ S.2 ≠ [] ∧ T.2 ≠ [] ∧ ∀ H', Same H H' → Q (.bl true) H'
theorem sc_refused : FnScope ["_law_one", "_law_other", "e", "_law_others"] ["_law_one", "_law_other"] (defScope s_refused) := ⟨rfl, rfl, rfl, by decide +kernel, rfl, by decide +kernel, by decide +kernel⟩
theorem lk_refused__law_one : (defScope s_refused).names.lookup ("_law_one" : Str) = some .local := by decide +kernel
theorem lk_refused__law_other : (defScope s_refused).names.lookup ("_law_other" : Str) = some .local := by decide +kernel
theorem lk_refused_e : (defScope s_refused).names.lookup ("e" : Str) = some .local := by decide +kernel
theorem lk_refused__law_others : (defScope s_refused).names.lookup ("_law_others" : Str) = some .local := by decide +kernel
theorem lk_refused_BadEnds : (defScope s_refused).names.lookup ("BadEnds" : Str) = some .globalImplicit := by decide +kernel
theorem lk_refused_BadFraction : (defScope s_refused).names.lookup ("BadFraction" : Str) = some .globalImplicit := by decide +kernel
theorem lk_refused_BadGoal : (defScope s_refused).names.lookup ("BadGoal" : Str) = some .globalImplicit := by decide +kernel
theorem lk_refused_BadName : (defScope s_refused).names.lookup ("BadName" : Str) = some .globalImplicit := by decide +kernel
theorem lk_refused_BadTable : (defScope s_refused).names.lookup ("BadTable" : Str) = some .globalImplicit := by decide +kernel
theorem lk_refused_BadText : (defScope s_refused).names.lookup ("BadText" : Str) = some .globalImplicit := by decide +kernel
theorem lk_refused_NotLinear : (defScope s_refused).names.lookup ("NotLinear" : Str) = some .globalImplicit := by decide +kernel
theorem lk_refused_TooMany : (defScope s_refused).names.lookup ("TooMany" : Str) = some .globalImplicit := by decide +kernel
theorem lk_refused_ValueError : (defScope s_refused).names.lookup ("ValueError" : Str) = some .globalImplicit := by decide +kernel
theorem lk_refused_isinstance : (defScope s_refused).names.lookup ("isinstance" : Str) = some .globalImplicit := by decide +kernel
theorem lk_refused_multiplied : (defScope s_refused).names.lookup ("multiplied" : Str) = some .globalImplicit := by decide +kernel
theorem ok_refused {ff fg CB aN aO : Addr} {df dg : FuncData} {dV : Value} {ds : List Value} {CN CP C1 C2 C3 C4 C5 C6 C7 : Addr} {fDT fDS fDL fDC fDMu : Addr} {dDT dDS dDL dDC dDMu : FuncData} (F : Fun K "_law_refused" "_law_refused" s_refused f fd) (B : Blt mg) (C : Cst K mg aN aO) (X9 : Errs K mg CN CP C1 C2 C3 C4 C5 C6 C7) (D : DefD K mg "fraction" s_fraction dV ff df ["top", "bottom"] ds) (G : DefAt K mg "greatest_divisor" s_greatest_divisor fg dg ["one", "other"]) (X : BadF K mg CB) (DT : DefAt K mg "times" s_times fDT dDT ["one", "other"]) (DS : DefAt K mg "sign" s_sign fDS dDS ["one"]) (DL : DefAt K mg "plain" s_plain fDL dDL ["one"]) (DC : DefAt K mg "scaled" s_scaled fDC dDC ["one", "part"]) (DMu : DefAt K mg "multiplied" s_multiplied fDMu dDMu ["one", "other"]) : FnOk P w K mg base CX0 7 f fd ["_law_one", "_law_other"] (spRef K) := by
  have OMu : FnOk P w K mg base (CXF P w) 6 fDMu dDMu ["one", "other"] (spMul K CN) := ok_multiplied DMu.F B C X9.nl D G X DT DS DL DC
  refine F.ok sc_refused (fun vs H Q E h => ?_) (fun cdv A outer s H vs Q E hr h => ?_)
  · obtain ⟨_, _, _, _, rfl, _⟩ := h
    rfl
  obtain ⟨u, v, S, T, rfl, mS, mT, wS, wT, nS, nT, q⟩ := h
  have nd := sc_refused.nd
  refine ⟨_, pss_cons (ps_try (i := 2) (n := "e") (CP := CP) rfl rfl rfl nd rfl rfl rfl X9.mp X9.ep (fun pn xe E hp => pss_one (ps_expr (pe_callS OMu hr lk_refused_multiplied DMu.m DMu.F.kp DMu.b .nil hp (pa_Name (pv 0 rfl (Or.inl lk_refused__law_one)) (pa_Name (pv 1 rfl (Or.inl lk_refused__law_other)) pa_nil))))) (fun pn ea => pss_cons (ps_set (i := 3) nd rfl (Or.inl lk_refused__law_others) (pe_callB (call_isiT (K := K) rfl) lk_refused_isinstance B.isinstance bt_isinstance (pa_Name (pv 2 rfl (Or.inl lk_refused_e)) (pa_Tuple (pe_tup (pa_Name (pe_glob (v := .ref C1) lk_refused_BadEnds X9.m1 rfl) (pa_Name (pe_glob (v := .ref C2) lk_refused_BadFraction X9.m2 rfl) (pa_Name (pe_glob (v := .ref C3) lk_refused_BadGoal X9.m3 rfl) (pa_Name (pe_glob (v := .ref C4) lk_refused_BadName X9.m4 rfl) (pa_Name (pe_glob (v := .ref C5) lk_refused_BadTable X9.m5 rfl) (pa_Name (pe_glob (v := .ref C6) lk_refused_BadText X9.m6 rfl) (pa_Name (pe_glob (v := .ref C7) lk_refused_TooMany X9.m7 rfl) pa_nil)))))))) pa_nil))))
    (pss_one (ps_ret (pe_and (pe_callB (call_isi (K := K) rfl) lk_refused_isinstance B.isinstance bt_isinstance (pa_Name (pv 2 rfl (Or.inl lk_refused_e)) (pa_Name (pe_glob (v := .ref CN) lk_refused_NotLinear X9.nl.m rfl) pa_nil))) (pe_and (pe_callB (call_isi (K := K) rfl) lk_refused_isinstance B.isinstance bt_isinstance (pa_Name (pv 2 rfl (Or.inl lk_refused_e)) (pa_Name (pe_bltn (v := .ty "ValueError") lk_refused_ValueError X9.ve boot_ve rfl) pa_nil))) (pe_one (pe_not (pv 3 rfl (Or.inl lk_refused__law_others))))))))))
    (pss_one (ps_ret (pe_bl))), ?_⟩
  refine ⟨_, rfl, _, rfl, u, v, S, T, rfl, mS, mT, wS, wT, fun _ _ => ⟨CN, rfl, X9.nl.e, X9.mro, fun ea hea => ?_⟩, fun z => by rcases z with z | z; exact absurd z nS; exact absurd z nT⟩
  have e0 : upd H ea (.ext (IsExc ea CN)) ea = some (.ext (IsExc ea CN)) := upd_same
  have sH : Same H (upd H ea (.ext (IsExc ea CN))) := same_new hea _
  generalize upd H ea (.ext (IsExc ea CN)) = H1 at e0 sH ⊢
  refine ⟨_, rfl, (by show 7 ≤ sizeLine; decide), fun tp htp => ?_⟩
  have e1 : upd H1 tp (.tup [.ref C1, .ref C2, .ref C3, .ref C4, .ref C5, .ref C6, .ref C7]) ea = some (.ext (IsExc ea CN)) := same_new htp _ _ _ e0
  have s2 : Same H (upd H1 tp (.tup [.ref C1, .ref C2, .ref C3, .ref C4, .ref C5, .ref C6, .ref C7])) := sH.trans (same_new htp _)
  refine ⟨ea, CN, tp, _, false, rfl, e1, X9.lk, X9.cl, upd_same, rfl, X9.no, ?_⟩
  refine ⟨_, rfl, .ref ea, .ref CN, .ref CN, true, rfl, rfl, .exc e1 X9.lk X9.cl, X9.me, true, rfl, ?_⟩
  refine iteT ?_
  refine ⟨_, rfl, .ref ea, .ty "ValueError", .ref CN, true, rfl, rfl, .exc e1 X9.lk X9.cl, X9.va, true, rfl, ?_⟩
  refine iteT ?_
  exact ⟨_, rfl, false, rfl, q _ s2⟩
theorem ti_comm (a b : Fq) : tiF a b = tiF b a := by unfold tiF; rw [Int.mul_comm a.1, Int.mul_comm a.2]
theorem mul_due {S T : Su} (hS : Wf S) (hT : Wf T) (h : S.2 = [] ∨ T.2 = []) : (if T.2 = [] then scaleP S T.1 else scaleP T S.1) = mulP S T := by
  unfold mulP
  by_cases e : T.2 = []
  · rw [if_pos e]
    by_cases z : S.2 = []
    · rw [if_neg (fun q => q z)]
      unfold scaleP
      rw [e, z]
      by_cases z1 : T.1.1 = 0
      · rw [if_pos z1]
        by_cases z2 : S.1.1 = 0
        · rw [if_pos z2]
        · rw [if_neg z2, red_zero (hT.c.1.times hS.c.1) ((ti_zero hT.c.1 hS.c.1).mpr (.inl z1))]
          rfl
      · rw [if_neg z1]
        by_cases z2 : S.1.1 = 0
        · rw [if_pos z2, red_zero (hS.c.1.times hT.c.1) ((ti_zero hS.c.1 hT.c.1).mpr (.inl z2))]
          rfl
        · rw [if_neg z2, ti_comm]
          rfl
    · rw [if_pos z]
  · rw [if_neg e, if_neg]
    intro q
    rcases h with h | h
    · exact q h
    · exact e h
theorem scale_len {S : Su} {a : Fq} (h : Wf S) : (scaleP S a).2.length ≤ 12 := by
  unfold scaleP
  split
  · exact Nat.zero_le _
  · show (S.2.map _).length ≤ 12
    rw [List.length_map]
    exact h.l
theorem mul_len {S T : Su} (hS : Wf S) (hT : Wf T) : (mulP S T).2.length ≤ 12 := by
  unfold mulP
  split
  · exact scale_len hS
  · exact scale_len hT
theorem sc_lmul : FnScope ["_law_one", "_law_other", "_law_due"] ["_law_one", "_law_other"] (defScope s_lmul) := ⟨rfl, rfl, rfl, by decide +kernel, rfl, by decide +kernel, by decide +kernel⟩
theorem lk_lmul__law_one : (defScope s_lmul).names.lookup ("_law_one" : Str) = some .local := by decide +kernel
theorem lk_lmul__law_other : (defScope s_lmul).names.lookup ("_law_other" : Str) = some .local := by decide +kernel
theorem lk_lmul__law_due : (defScope s_lmul).names.lookup ("_law_due" : Str) = some .local := by decide +kernel
theorem lk_lmul__law_is : (defScope s_lmul).names.lookup ("_law_is" : Str) = some .globalImplicit := by decide +kernel
theorem lk_lmul__law_refused : (defScope s_lmul).names.lookup ("_law_refused" : Str) = some .globalImplicit := by decide +kernel
theorem lk_lmul__law_scaled : (defScope s_lmul).names.lookup ("_law_scaled" : Str) = some .globalImplicit := by decide +kernel
theorem lk_lmul_multiplied : (defScope s_lmul).names.lookup ("multiplied" : Str) = some .globalImplicit := by decide +kernel
theorem ok_lmul {ff fg CB aN aO : Addr} {df dg : FuncData} {dV : Value} {ds : List Value} {CN CP C1 C2 C3 C4 C5 C6 C7 : Addr} {fDT fDS fDL fDC fDMu fDRf fDLs fDLt fDOf fDLw fDSh fDIs fDW : Addr} {dDT dDS dDL dDC dDMu dDRf dDLs dDLt dDOf dDLw dDSh dDIs dDW : FuncData} (F : Fun K "_law_multiplied" "_law_multiplied" s_lmul f fd) (B : Blt mg) (C : Cst K mg aN aO) (X9 : Errs K mg CN CP C1 C2 C3 C4 C5 C6 C7) (D : DefD K mg "fraction" s_fraction dV ff df ["top", "bottom"] ds) (G : DefAt K mg "greatest_divisor" s_greatest_divisor fg dg ["one", "other"]) (X : BadF K mg CB) (DT : DefAt K mg "times" s_times fDT dDT ["one", "other"]) (DS : DefAt K mg "sign" s_sign fDS dDS ["one"]) (DL : DefAt K mg "plain" s_plain fDL dDL ["one"]) (DC : DefAt K mg "scaled" s_scaled fDC dDC ["one", "part"]) (DMu : DefAt K mg "multiplied" s_multiplied fDMu dDMu ["one", "other"]) (DRf : DefAt K mg "_law_refused" s_refused fDRf dDRf ["_law_one", "_law_other"]) (DLs : DefAt K mg "_law_scaled" s_lscaled fDLs dDLs ["_law_one", "_law_part_here"]) (DLt : DefAt K mg "_law_times" s_ltimes fDLt dDLt ["_law_one", "_law_other"]) (DOf : DefAt K mg "_law_of" s_of fDOf dDOf ["_law_constant", "_law_parts"]) (DLw : DefAt K mg "_law_low" s_low fDLw dDLw ["_law_top", "_law_bottom"]) (DSh : DefAt K mg "_law_shared" s_shared fDSh dDSh ["_law_one", "_law_other"]) (DIs : DefAt K mg "_law_is" s_is fDIs dDIs ["_law_found", "_law_due"]) (DW : DefAt K mg "_law_whole" s_whole fDW dDW ["_law_found"]) : FnOk P w K mg base CX0 8 f fd ["_law_one", "_law_other"] (fun vs H Q _ => ∃ u v S T, vs = [u, v] ∧ Sm K H u S ∧ Sm K H v T ∧ Wf S ∧ Wf T ∧ ∀ H', Same H H' → Q (.bl true) H') := by
  have ORf : FnOk P w K mg base CX0 7 fDRf dDRf ["_law_one", "_law_other"] (spRef K) := ok_refused DRf.F B C X9 D G X DT DS DL DC DMu
  have OLs : FnOk P w K mg base CX0 4 fDLs dDLs ["_law_one", "_law_part_here"] (spScale K scaleP) := ok_lscaled DLs.F B DLt DOf DLw DSh
  have OMu : FnOk P w K mg base CX0 6 fDMu dDMu ["one", "other"] (fun vs H Q _ => spMul K CN vs H Q E0) := (ok_multiplied DMu.F B C X9.nl D G X DT DS DL DC).to0
  have OIs : FnOk P w K mg base CX0 2 fDIs dDIs ["_law_found", "_law_due"] (spIs K) := ok_is DIs.F B DW
  refine F.ok sc_lmul (fun vs H Q E h => ?_) (fun cdv A outer s H vs Q E hr h => ?_)
  · obtain ⟨_, _, _, _, rfl, _⟩ := h
    rfl
  obtain ⟨_, _, S, T, rfl, mS, mT, wS, wT, k⟩ := h
  obtain ⟨p, cv, pv', rfl, hp, hc, pp, vs1, rfl, hpp, pr1⟩ := id mS
  obtain ⟨q, cw, pw', rfl, hq, hcw, pq, vs2, rfl, hpq, pr2⟩ := id mT
  have nd := sc_lmul.nd
  have hr4 : Room 4 _ := hr.mono (by decide)
  have hr6 : Room 6 _ := hr.mono (by decide)
  have hr2 : Room 2 _ := hr.mono (by decide)
  have hu0 := Nat.lt_of_le_of_lt (Nat.le_succ _) (hu_of hr)
  refine ⟨_, pss_cons (ps_if (PW.pt (pw_and (pt_cmpR (op_neT0 (K := K) rfl hu0) (pe_ix ix_tup (pv 0 rfl (Or.inl lk_lmul__law_one)) (pe_int) (fun _ _ => rfl)) (pe_tup pa_nil) (nomark _)) (pw_and1 (pt_cmpR (op_neT0 (K := K) rfl hu0) (pe_ix ix_tup (pv 1 rfl (Or.inl lk_lmul__law_other)) (pe_int) (fun _ _ => rfl)) (pe_tup pa_nil) (nomark _))))) (pss_one (ps_ret (pe_call ORf hr lk_lmul__law_refused DRf.m DRf.F.kp DRf.b .nil pass0 (pa_Name (pv 0 rfl (Or.inl lk_lmul__law_one)) (pa_Name (pv 1 rfl (Or.inl lk_lmul__law_other)) pa_nil))))) (pss_nil))
    (pss_cons (ps_set (i := 2) nd rfl (Or.inl lk_lmul__law_due) (pe_call OLs hr4 lk_lmul__law_scaled DLs.m DLs.F.kp DLs.b .nil pass0 (pa_Name (pv 1 rfl (Or.inl lk_lmul__law_other)) (pa_Subscript (pe_ix ix_tup (pv 0 rfl (Or.inl lk_lmul__law_one)) (pe_int) (fun _ _ => rfl)) pa_nil))))
    (pss_cons (ps_if (pt_cmpR (op_eqT0 (K := K) rfl hu0) (pe_ix ix_tup (pv 1 rfl (Or.inl lk_lmul__law_other)) (pe_int) (fun _ _ => rfl)) (pe_tup pa_nil) (nomark _)) (pss_one (ps_set (i := 2) nd rfl (Or.inl lk_lmul__law_due) (pe_call OLs hr4 lk_lmul__law_scaled DLs.m DLs.F.kp DLs.b .nil pass0 (pa_Name (pv 0 rfl (Or.inl lk_lmul__law_one)) (pa_Subscript (pe_ix ix_tup (pv 1 rfl (Or.inl lk_lmul__law_other)) (pe_int) (fun _ _ => rfl)) pa_nil))))) (pss_nil))
    (pss_one (ps_ret (pe_call OIs hr2 lk_lmul__law_is DIs.m DIs.F.kp DIs.b .nil pass0 (pa_Call (pe_call OMu hr6 lk_lmul_multiplied DMu.m DMu.F.kp DMu.b .nil pass0 (pa_Name (pv 0 rfl (Or.inl lk_lmul__law_one)) (pa_Name (pv 1 rfl (Or.inl lk_lmul__law_other)) pa_nil))) (pa_Name (pv 2 rfl (Or.inl lk_lmul__law_due)) pa_nil))))))), ?_⟩
  have n1 := paired_nil pr1
  have n2 := paired_nil pr2
  dsimp only [tSeq]
  refine ifS_by (b := (!vs1.isEmpty && !vs2.isEmpty)) (Tells.and (fun R hR => ⟨_, rfl, p, _, _, _, rfl, rfl, SqT.of hp, rfl, Nat.zero_le _, fun t ht => ⟨pp, t, vs1, rfl, rfl, SqT.of (same_new ht _ _ _ hpp), SqT.of upd_same, _, rfl, hR _ (same_new ht _)⟩⟩)
    (fun _ H1 s1 R hR => ⟨_, rfl, q, _, _, _, rfl, rfl, SqT.of (s1 _ _ hq), rfl, Nat.zero_le _, fun t ht => ⟨pq, t, vs2, rfl, rfl, SqT.of (same_new ht _ _ _ (s1 _ _ hpq)), SqT.of upd_same, _, rfl, hR _ (same_new ht _)⟩⟩)) (fun hb H1 s1 => ?_) (fun hb H1 s1 => ?_)
  · rw [Bool.and_eq_true] at hb
    exact ⟨_, rfl, _, rfl, _, _, S, T, rfl, mS.same s1, mT.same s1, wS, wT, n1.mp hb.1, n2.mp hb.2, fun H2 s2 => k _ (s1.trans s2)⟩
  have one : S.2 = [] ∨ T.2 = [] := by
    by_cases e1 : S.2 = []
    · exact .inl e1
    · by_cases e2 : T.2 = []
      · exact .inr e2
      · rw [n1.mpr e1, n2.mpr e2] at hb
        cases hb
  refine ⟨_, rfl, _, rfl, p, _, _, _, rfl, rfl, SqT.of (s1 _ _ hp), rfl, _, _, T, S.1, rfl, mT.same s1, hc.same s1, wT, wS.c, fun r1 H2 s2 m2 => ?_⟩
  have s12 := s1.trans s2
  dsimp only [tSeq]
  refine ifS_by (b := vs2.isEmpty) (fun R hR => ⟨_, rfl, q, _, _, _, rfl, rfl, SqT.of (s12 _ _ hq), rfl, Nat.zero_le _, fun t ht => ⟨pq, t, vs2, rfl, rfl, SqT.of (same_new ht _ _ _ (s12 _ _ hpq)), SqT.of upd_same, _, rfl, hR _ (same_new ht _)⟩⟩) (fun hb H3 s3 => ?_) (fun hb H3 s3 => ?_)
  · have e2 : T.2 = [] := Classical.byContradiction fun z => by
      have := n2.mpr z
      rw [hb] at this
      cases this
    have s13 := s12.trans s3
    refine ⟨_, rfl, _, rfl, q, _, _, _, rfl, rfl, SqT.of (s13 _ _ hq), rfl, _, _, S, T.1, rfl, mS.same s13, hcw.same s13, wS, wT.c, fun r3 H4 s4 m4 => ?_⟩
    have s14 := s13.trans s4
    have due := mul_due wS wT one
    rw [if_pos e2] at due
    rw [due] at m4
    exact ⟨_, rfl, _, rfl, _, _, S, T, rfl, mS.same s14, mT.same s14, wS, wT, (fun a b => by rcases one with z | z; exact absurd z a; exact absurd z b), fun _ r5 H5 s5 m5 => ⟨_, rfl, r5, r3, mulP S T, rfl, m5, m4.same s5, Nat.le_trans (mul_len wS wT) (by decide), fun H6 s6 => k _ (s14.trans (s5.trans s6))⟩⟩
  · have e2 : T.2 ≠ [] := n2.mp (by rw [hb]; rfl)
    have s13 := s12.trans s3
    have due := mul_due wS wT one
    rw [if_neg e2] at due
    rw [due] at m2
    exact ⟨_, rfl, _, rfl, _, _, S, T, rfl, mS.same s13, mT.same s13, wS, wT, (fun a b => by rcases one with z | z; exact absurd z a; exact absurd z b), fun _ r5 H5 s5 m5 => ⟨_, rfl, r5, r1, mulP S T, rfl, m5, (m2.same s3).same s5, Nat.le_trans (mul_len wS wT) (by decide), fun H6 s6 => k _ (s13.trans (s5.trans s6))⟩⟩
theorem alikeFs {K : PySem.W.Frag} {H : Hp} {n : Nat} : ∀ {us : List V} {as : List Fq}, Paired (IsF K H) us as → Paired (Alike K H (n + 1)) us us
  | _, _, .nil => .nil
  | _, _, .cons a t => .cons (alikeF a a) (alikeFs t)
theorem eqVs_self (x y : Int) : eqVs [.int x, .int y] [.int x, .int y] = true := by
  show ((x == x) && ((y == y) && true)) = true
  simp
def spLW (K : PySem.W.Frag) : Sp := fun vs H Q _ => ∃ u lv b S fs vals, vs = [u, .ref lv, .bl b] ∧ Sm K H u S ∧ Wf S ∧ H lv = some (.lst fs) ∧ Paired (IsF K H) fs vals ∧ (∀ x ∈ vals, Gd 101 x) ∧ (∀ m ∈ S.2, m.1 < vals.length) ∧ ∀ H', Same H H' → Q (.bl true) H'
theorem sc_lworth : FnScope ["_law_one", "_law_values", "_law_is_list", "_law_due", "_law_number_here", "_law_part_here", "_law_handed", "_law_found"] ["_law_one", "_law_values", "_law_is_list"] (defScope s_lworth) := ⟨rfl, rfl, rfl, by decide +kernel, rfl, by decide +kernel, by decide +kernel⟩
theorem lk_lworth__law_one : (defScope s_lworth).names.lookup ("_law_one" : Str) = some .local := by decide +kernel
theorem lk_lworth__law_values : (defScope s_lworth).names.lookup ("_law_values" : Str) = some .local := by decide +kernel
theorem lk_lworth__law_is_list : (defScope s_lworth).names.lookup ("_law_is_list" : Str) = some .local := by decide +kernel
theorem lk_lworth__law_due : (defScope s_lworth).names.lookup ("_law_due" : Str) = some .local := by decide +kernel
theorem lk_lworth__law_number_here : (defScope s_lworth).names.lookup ("_law_number_here" : Str) = some .local := by decide +kernel
theorem lk_lworth__law_part_here : (defScope s_lworth).names.lookup ("_law_part_here" : Str) = some .local := by decide +kernel
theorem lk_lworth__law_handed : (defScope s_lworth).names.lookup ("_law_handed" : Str) = some .local := by decide +kernel
theorem lk_lworth__law_found : (defScope s_lworth).names.lookup ("_law_found" : Str) = some .local := by decide +kernel
theorem lk_lworth__law_plus : (defScope s_lworth).names.lookup ("_law_plus" : Str) = some .globalImplicit := by decide +kernel
theorem lk_lworth__law_times : (defScope s_lworth).names.lookup ("_law_times" : Str) = some .globalImplicit := by decide +kernel
theorem lk_lworth__law_whole : (defScope s_lworth).names.lookup ("_law_whole" : Str) = some .globalImplicit := by decide +kernel
theorem lk_lworth_isinstance : (defScope s_lworth).names.lookup ("isinstance" : Str) = some .globalImplicit := by decide +kernel
theorem lk_lworth_list : (defScope s_lworth).names.lookup ("list" : Str) = some .globalImplicit := by decide +kernel
theorem lk_lworth_tuple : (defScope s_lworth).names.lookup ("tuple" : Str) = some .globalImplicit := by decide +kernel
theorem lk_lworth_worth : (defScope s_lworth).names.lookup ("worth" : Str) = some .globalImplicit := by decide +kernel
theorem ok_lworth {ff fg CB : Addr} {df dg : FuncData} {dV : Value} {ds : List Value} {fDP fDT fDWo fDW fDLp fDLt fDLw fDSh : Addr} {dDP dDT dDWo dDW dDLp dDLt dDLw dDSh : FuncData} (F : Fun K "_law_worth" "_law_worth" s_lworth f fd) (B : Blt mg) (D : DefD K mg "fraction" s_fraction dV ff df ["top", "bottom"] ds) (G : DefAt K mg "greatest_divisor" s_greatest_divisor fg dg ["one", "other"]) (X : BadF K mg CB) (DP : DefAt K mg "plus" s_plus fDP dDP ["one", "other"]) (DT : DefAt K mg "times" s_times fDT dDT ["one", "other"]) (DWo : DefAt K mg "worth" s_worth fDWo dDWo ["one", "values"]) (DW : DefAt K mg "_law_whole" s_whole fDW dDW ["_law_found"]) (DLp : DefAt K mg "_law_plus" s_lplus fDLp dDLp ["_law_one", "_law_other"]) (DLt : DefAt K mg "_law_times" s_ltimes fDLt dDLt ["_law_one", "_law_other"]) (DLw : DefAt K mg "_law_low" s_low fDLw dDLw ["_law_top", "_law_bottom"]) (DSh : DefAt K mg "_law_shared" s_shared fDSh dDSh ["_law_one", "_law_other"]) : FnOk P w K mg base CX0 6 f fd ["_law_one", "_law_values", "_law_is_list"] (spLW K) := by
  have OP : FnOk P w K mg base CX0 3 fDLp dDLp ["_law_one", "_law_other"] (spBin K plF) := ok_lplus DLp.F B DLw DSh
  have OT : FnOk P w K mg base CX0 3 fDLt dDLt ["_law_one", "_law_other"] (spBin K tiF) := ok_ltimes DLt.F B DLw DSh
  have OW : FnOk P w K mg base CX0 5 fDWo dDWo ["one", "values"] (spWorth K) := ok_worth (aN := 0) (aO := 0) DWo.F B D G X DP DT
  have OH : FnOk P w K mg base CX0 1 fDW dDW ["_law_found"] spWhole := ok_whole DW.F B
  refine F.ok sc_lworth (fun vs H Q E h => ?_) (fun cdv A outer s H vs Q E hr h => ?_)
  · obtain ⟨_, _, _, _, _, _, rfl, _⟩ := h
    rfl
  obtain ⟨_, lv, bb, S, fs, vals, rfl, mS, wS, hl, pv1, gv, bd, k⟩ := h
  obtain ⟨p, cv, pv', rfl, hp, hc, pp, vs1, rfl, hpp, pr1⟩ := id mS
  have nd := sc_lworth.nd
  have hr3 : Room 3 _ := hr.mono (by decide)
  have hr1 : Room 1 _ := hr.mono (by decide)
  have hu0 := Nat.lt_of_le_of_lt (Nat.le_succ _) (hu_of hr)
  have l1 : vs1.length = S.2.length := pr1.length
  have l12 := wS.l
  refine ⟨_, pss_cons (ps_set (i := 3) nd rfl (Or.inl lk_lworth__law_due) (pe_ix ix_tup (pv 0 rfl (Or.inl lk_lworth__law_one)) (pe_int) (fun _ _ => rfl)))
    (pss_cons (ps_for PassesOwn.never rfl (pi_tup (pe_ix ix_tup (pv 0 rfl (Or.inl lk_lworth__law_one)) (pe_int) (fun _ _ => rfl))) (pg_tup rfl (pgs_cons (pg_name (i := 4) nd rfl (Or.inl lk_lworth__law_number_here)) (pgs_cons (pg_name (i := 5) nd rfl (Or.inl lk_lworth__law_part_here)) (pgs_nil)))) (pss_one (ps_set (i := 3) nd rfl (Or.inl lk_lworth__law_due) (pe_call OP hr3 lk_lworth__law_plus DLp.m DLp.F.kp DLp.b .nil pass0 (pa_Name (pv 3 rfl (Or.inl lk_lworth__law_due)) (pa_Call (pe_call OT hr3 lk_lworth__law_times DLt.m DLt.F.kp DLt.b .nil pass0 (pa_Name (pv 5 rfl (Or.inl lk_lworth__law_part_here)) (pa_Subscript (pe_ix ix_list (pv 1 rfl (Or.inl lk_lworth__law_values)) (pv 4 rfl (Or.inl lk_lworth__law_number_here)) (fun _ _ => rfl)) pa_nil))) pa_nil))))))
    (pss_cons (ps_set (i := 6) nd rfl (Or.inl lk_lworth__law_handed) (pe_ifExp (pt_val (pv 2 rfl (Or.inl lk_lworth__law_is_list))) (pe_callTy call_list_of lk_lworth_list B.list bt_list (pa_Name (pv 1 rfl (Or.inl lk_lworth__law_values)) pa_nil)) (pe_callTy call_tuple_of lk_lworth_tuple B.tuple bt_tuple (pa_Name (pv 1 rfl (Or.inl lk_lworth__law_values)) pa_nil))))
    (pss_cons (ps_set (i := 7) nd rfl (Or.inl lk_lworth__law_found) (pe_call OW hr lk_lworth_worth DWo.m DWo.F.kp DWo.b .nil pass0 (pa_Name (pv 0 rfl (Or.inl lk_lworth__law_one)) (pa_Name (pv 6 rfl (Or.inl lk_lworth__law_handed)) pa_nil))))
    (pss_cons (ps_if (PW.pt (pw_or (pt_not (pt_val (pe_callB (call_isiTup (K := K) rfl) lk_lworth_isinstance B.isinstance bt_isinstance (pa_Name (pv 7 rfl (Or.inl lk_lworth__law_found)) (pa_Name (pe_bltn (v := .ty "tuple") lk_lworth_tuple B.tuple bt_tuple rfl) pa_nil))))) (pw_or (pt_not (pt_val (pe_call OH hr1 lk_lworth__law_whole DW.m DW.F.kp DW.b .nil pass0 (pa_Subscript (pe_ix ix_tup (pv 7 rfl (Or.inl lk_lworth__law_found)) (pe_int) (fun _ _ => rfl)) pa_nil)))) (pw_or1 (pt_not (pt_val (pe_call OH hr1 lk_lworth__law_whole DW.m DW.F.kp DW.b .nil pass0 (pa_Subscript (pe_ix ix_tup (pv 7 rfl (Or.inl lk_lworth__law_found)) (pe_int) (fun _ _ => rfl)) pa_nil)))))))) (pss_one (ps_ret (pe_bl))) (pss_nil))
    (pss_one (ps_ret (pe_and (pe_cmpR (op_eqTF hu0) (pv 7 rfl (Or.inl lk_lworth__law_found)) (pv 3 rfl (Or.inl lk_lworth__law_due)) (nomark _)) (pe_one (pe_cmpR (op_eqA (K := K) rfl hr.units) (pe_callTy call_list_of lk_lworth_list B.list bt_list (pa_Name (pv 6 rfl (Or.inl lk_lworth__law_handed)) pa_nil)) (pv 1 rfl (Or.inl lk_lworth__law_values)) (nomark _)))))))))), ?_⟩
  refine ⟨_, rfl, p, _, _, _, rfl, rfl, SqT.of hp, rfl, ?_⟩
  refine ⟨_, rfl, p, _, _, _, rfl, rfl, SqT.of hp, rfl, pp, rfl, ⟨_, SqT.of hpp⟩, ?_⟩
  refine for_tup (xs := vs1) (fun i σ H' => ∃ (n pt : Option V) (tv : V), σ = [some (.ref p), some (.ref lv), some (.bl bb), some tv, n, pt, none, none] ∧ Same H H' ∧ IsF K H' tv (wrt S.1 (S.2.take i) vals) ∧ Gd (203 * i + 101) (wrt S.1 (S.2.take i) vals))
    ⟨none, none, cv, rfl, Same.refl', hc, wS.c⟩ (fun i σ H' _ h => ?_) (fun i x σ H' hx h => ?_) (fun σ H' h => ?_)
  · obtain ⟨_, _, _, _, sm, _⟩ := h
    exact SqT.of (sm _ _ hpp)
  · obtain ⟨n, pt, tv, rfl, sm, ft', gt'⟩ := h
    have hi : i < S.2.length := by rw [← l1]; exact (List.getElem?_eq_some_iff.mp hx).1
    have hm := List.getElem?_eq_getElem hi
    have hmem : S.2[i] ∈ S.2 := List.getElem_mem hi
    obtain ⟨a', fv, rfl, sq, hf⟩ := (pair_get pr1 i _ _ hx hm).same sm
    obtain ⟨g1, _, n0, _⟩ := wS.p _ hmem
    obtain ⟨xv, ex, fx, gx⟩ := val_at (Paired.mapP pv1 fun _ _ q => q.same sm) gv n0 (bd _ hmem)
    refine ⟨a', _, rfl, sq, rfl, _, _, rfl, _, _, rfl, rfl, ?_⟩
    refine ⟨_, rfl, _, rfl, _, rfl, _, rfl, lv, _, _, _, rfl, rfl, SqL.of (sm _ _ hl), ex, ?_⟩
    refine ⟨_, _, _, _, 101, 101, rfl, hf, fx, g1, gx, by decide, fun r1 H1 s1 f1 => ?_⟩
    refine ⟨_, _, _, _, 203 * i + 101, 202, rfl, ft'.same s1, f1, gt', g1.times gx, by omega, fun r2 H2 s2 f2 => ?_⟩
    refine ⟨_, _, r2, rfl, sm.trans (s1.trans s2), ?_, ?_⟩
    · rw [take_next hm, wrt_snoc]
      exact f2
    · rw [take_next hm, wrt_snoc]
      exact (gt'.plus (g1.times gx)).mono (by omega)
  · obtain ⟨n, pt, tv, rfl, sm, ft', gt'⟩ := h
    rw [l1, List.take_length] at ft'
    have ft' : IsF K H' tv (worthP S vals) := ft'
    refine ⟨_, rfl, bb, rfl, ?_⟩
    cases bb with
    | true =>
      refine iteY rfl ?_
      refine ⟨_, rfl, lv, fs, rfl, .inl (SqL.of (sm _ _ hl)), fun l2 h2 => ?_⟩
      have s2' : Same H' (upd H' l2 (.lst fs)) := same_new h2 _
      have e2 : upd H' l2 (.lst fs) l2 = some (.lst fs) := upd_same
      generalize upd H' l2 (.lst fs) = H2 at s2' e2 ⊢
      have s2 : Same H' H2 := s2'
      have sA := sm.trans s2
      have pvA := Paired.mapP pv1 fun _ _ q => q.same sA
      refine ⟨_, rfl, _, rfl, _, l2, S, fs, vals, rfl, mS.same sA, wS, .inl (SqL.of e2), pvA, gv, bd, fun r H3 s3 f3 => ?_⟩
      obtain ⟨pr, rfl, sr⟩ := id f3
      have fd3 : IsF K H3 tv (worthP S vals) := (ft'.same s2).same s3
      obtain ⟨pd, rfl, sd⟩ := id fd3
      refine ⟨_, rfl, pr, _, rfl, sr, true, rfl, iteN rfl ?_⟩
      refine ⟨_, rfl, pr, _, _, _, rfl, rfl, sr, rfl, _, rfl, .int _, true, rfl, iteN rfl ?_⟩
      refine ⟨_, rfl, pr, _, _, _, rfl, rfl, sr, rfl, _, rfl, .int _, true, rfl, iteN rfl ?_⟩
      refine ⟨_, rfl, _, rfl, pr, pd, _, _, rfl, rfl, sr, sd, rfl, rfl, _, rfl, iteY (eqVs_self _ _) ?_⟩
      refine ⟨_, rfl, l2, fs, rfl, .inl (SqL.of (s3 _ _ e2)), fun l3 h3 => ?_⟩
      have sB : Same H H3 := sA.trans s3
      have s4 : Same H3 (upd H3 l3 (.lst fs)) := same_new h3 _
      refine ⟨_, rfl, l3, lv, fs, fs, rfl, rfl, .inr ⟨SqL.of upd_same, SqL.of (s4 _ _ (sB _ _ hl))⟩, alikeFs (Paired.mapP pv1 fun _ _ q => (q.same sB).same s4), k _ (sB.trans s4)⟩
    | false =>
      refine iteN rfl ?_
      refine ⟨_, rfl, lv, fs, rfl, .inl ⟨SqL.of (sm _ _ hl), fun l2 h2 => ?_⟩⟩
      have s2' : Same H' (upd H' l2 (.tup fs)) := same_new h2 _
      have e2 : upd H' l2 (.tup fs) l2 = some (.tup fs) := upd_same
      generalize upd H' l2 (.tup fs) = H2 at s2' e2 ⊢
      have s2 : Same H' H2 := s2'
      have sA := sm.trans s2
      have pvA := Paired.mapP pv1 fun _ _ q => q.same sA
      refine ⟨_, rfl, _, rfl, _, l2, S, fs, vals, rfl, mS.same sA, wS, .inr (SqT.of e2), pvA, gv, bd, fun r H3 s3 f3 => ?_⟩
      obtain ⟨pr, rfl, sr⟩ := id f3
      have fd3 : IsF K H3 tv (worthP S vals) := (ft'.same s2).same s3
      obtain ⟨pd, rfl, sd⟩ := id fd3
      refine ⟨_, rfl, pr, _, rfl, sr, true, rfl, iteN rfl ?_⟩
      refine ⟨_, rfl, pr, _, _, _, rfl, rfl, sr, rfl, _, rfl, .int _, true, rfl, iteN rfl ?_⟩
      refine ⟨_, rfl, pr, _, _, _, rfl, rfl, sr, rfl, _, rfl, .int _, true, rfl, iteN rfl ?_⟩
      refine ⟨_, rfl, _, rfl, pr, pd, _, _, rfl, rfl, sr, sd, rfl, rfl, _, rfl, iteY (eqVs_self _ _) ?_⟩
      refine ⟨_, rfl, l2, fs, rfl, .inr (SqT.of (s3 _ _ e2)), fun l3 h3 => ?_⟩
      have sB : Same H H3 := sA.trans s3
      have s4 : Same H3 (upd H3 l3 (.lst fs)) := same_new h3 _
      refine ⟨_, rfl, l3, lv, fs, fs, rfl, rfl, .inr ⟨SqL.of upd_same, SqL.of (s4 _ _ (sB _ _ hl))⟩, alikeFs (Paired.mapP pv1 fun _ _ q => (q.same sB).same s4), k _ (sB.trans s4)⟩
end
end Pw


set_option Elab.async false
set_option linter.all false
set_option maxRecDepth 100000
set_option maxHeartbeats 4000000
namespace Pw
open PySem L2
seal PE PT PW PA PS PSs PG PGs PI PIf
section
variable {P : Program} {w : World} {K : PySem.W.Frag} {mg : Str → Option Value} {base : Heap} {f : Addr} {fd : FuncData}
theorem paired_app {α β : Type} {F : α → β → Prop} : ∀ {xs : List α} {ys : List β} {us : List α} {ws : List β}, Paired F xs ys → Paired F us ws → Paired F (xs ++ us) (ys ++ ws)
  | _, _, _, _, .nil, s => s
  | _, _, _, _, .cons r t, s => .cons r (paired_app t s)
theorem ifS_join {c : TT} {t u : TS} {D : Ends} {σ : St} {H : Hp} {b : Bool} (J : St → Hp → Prop) (hc : Tells c σ H b) (h1 : ∀ H', Same H H' → ∀ Dn : St → Hp → Prop, (∀ σ' H', J σ' H' → Dn σ' H') → t { D with nx := Dn } σ H') (h0 : ∀ H', Same H H' → ∀ Dn : St → Hp → Prop, (∀ σ' H', J σ' H' → Dn σ' H') → u { D with nx := Dn } σ H')
    (hJ : ∀ σ' H', J σ' H' → D.nx σ' H') : tIfS c t u D σ H := ifS_by hc (fun _ H' s => h1 H' s D.nx hJ) (fun _ H' s => h0 H' s D.nx hJ)
theorem addD_len (d ms : Pq) : (addD d ms).length ≤ d.length + ms.length := by
  induction ms generalizing d with
  | nil => exact Nat.le_refl _
  | cons m ms ih =>
    have h1 := ih (putP d m.1 (plF ((lookP d m.1).getD (0, 1)) m.2))
    have h2 := put_len d m.1 (plF ((lookP d m.1).getD (0, 1)) m.2)
    show (addD (putP d m.1 (plF ((lookP d m.1).getD (0, 1)) m.2)) ms).length ≤ _
    rw [List.length_cons]
    omega
theorem ofP_len (d : Pq) : (ofP d).length ≤ d.length := by
  rw [ofP_sel]
  refine Nat.le_trans (List.length_filterMap_le _ _) ?_
  rw [(PySem.W.sortI_perm (d.map (·.1))).length_eq, List.length_map]
  exact Nat.le_refl _
theorem add_len {S T : Su} (hS : Wf S) (hT : Wf T) : (addP S T).2.length ≤ 100 := by
  have h1 := ofP_len (addD S.2 T.2)
  have h2 := addD_len S.2 T.2
  have h3 := hS.l
  have h4 := hT.l
  show (ofP (addD S.2 T.2)).length ≤ 100
  omega
theorem wf_plain {a : Fq} (h : Gd 101 a) : Wf (a, []) := ⟨h, (fun m hm => nomatch hm), .nil, Nat.zero_le _⟩
def TwoS (K : PySem.W.Frag) (H : Hp) (x : V) : Prop := ∃ q u v S T, x = .ref q ∧ SqT K H q [u, v] ∧ Sm K H u S ∧ Sm K H v T ∧ Wf S ∧ Wf T
def TwoF (K : PySem.W.Frag) (H : Hp) (x : V) : Prop := ∃ q u v S a, x = .ref q ∧ SqT K H q [u, v] ∧ Sm K H u S ∧ IsF K H v a ∧ Wf S ∧ Gd 101 a
theorem TwoS.same {K : PySem.W.Frag} {H H' : Hp} {x : V} (s : Same H H') (h : TwoS K H x) : TwoS K H' x := let ⟨q, u, v, S, T, e, a, b, c, d, f⟩ := h; ⟨q, u, v, S, T, e, s.seqT a, b.same s, c.same s, d, f⟩
theorem TwoF.same {K : PySem.W.Frag} {H H' : Hp} {x : V} (s : Same H H') (h : TwoF K H x) : TwoF K H' x := let ⟨q, u, v, S, T, e, a, b, c, d, f⟩ := h; ⟨q, u, v, S, T, e, s.seqT a, b.same s, c.same s, d, f⟩
def spLaw (K : PySem.W.Frag) : Sp := fun vs H Q _ => ∃ (a : Addr) (ns : List Int), vs = [.ref a] ∧ SqL K H a (ns.map V.int) ∧ ns.length ≤ 63 ∧ ∀ H', Q (.bl true) H'
theorem sc_law : FnScope ["_law_script", "_law_one", "_law_other", "_law_cell", "_law_part_here", "_law_number_here", "_law_first", "_law_second", "_law_more", "_law_many", "_law_values", "_law_is_list"] ["_law_script"] (defScope s_law) := ⟨rfl, rfl, rfl, by decide +kernel, rfl, by decide +kernel, by decide +kernel⟩
theorem lk_law__law_script : (defScope s_law).names.lookup ("_law_script" : Str) = some .cell := by decide +kernel
theorem lk_law__law_one : (defScope s_law).names.lookup ("_law_one" : Str) = some .local := by decide +kernel
theorem lk_law__law_other : (defScope s_law).names.lookup ("_law_other" : Str) = some .local := by decide +kernel
theorem lk_law__law_cell : (defScope s_law).names.lookup ("_law_cell" : Str) = some .local := by decide +kernel
theorem lk_law__law_part_here : (defScope s_law).names.lookup ("_law_part_here" : Str) = some .local := by decide +kernel
theorem lk_law__law_number_here : (defScope s_law).names.lookup ("_law_number_here" : Str) = some .local := by decide +kernel
theorem lk_law__law_first : (defScope s_law).names.lookup ("_law_first" : Str) = some .local := by decide +kernel
theorem lk_law__law_second : (defScope s_law).names.lookup ("_law_second" : Str) = some .local := by decide +kernel
theorem lk_law__law_more : (defScope s_law).names.lookup ("_law_more" : Str) = some .local := by decide +kernel
theorem lk_law__law_many : (defScope s_law).names.lookup ("_law_many" : Str) = some .local := by decide +kernel
theorem lk_law__law_values : (defScope s_law).names.lookup ("_law_values" : Str) = some .cell := by decide +kernel
theorem lk_law__law_is_list : (defScope s_law).names.lookup ("_law_is_list" : Str) = some .cell := by decide +kernel
theorem lk_law__law_added : (defScope s_law).names.lookup ("_law_added" : Str) = some .globalImplicit := by decide +kernel
theorem lk_law__law_alike : (defScope s_law).names.lookup ("_law_alike" : Str) = some .globalImplicit := by decide +kernel
theorem lk_law__law_cell_at : (defScope s_law).names.lookup ("_law_cell_at" : Str) = some .globalImplicit := by decide +kernel
theorem lk_law__law_is : (defScope s_law).names.lookup ("_law_is" : Str) = some .globalImplicit := by decide +kernel
theorem lk_law__law_multiplied : (defScope s_law).names.lookup ("_law_multiplied" : Str) = some .globalImplicit := by decide +kernel
theorem lk_law__law_part : (defScope s_law).names.lookup ("_law_part" : Str) = some .globalImplicit := by decide +kernel
theorem lk_law__law_scaled : (defScope s_law).names.lookup ("_law_scaled" : Str) = some .globalImplicit := by decide +kernel
theorem lk_law__law_sum : (defScope s_law).names.lookup ("_law_sum" : Str) = some .globalImplicit := by decide +kernel
theorem lk_law_added : (defScope s_law).names.lookup ("added" : Str) = some .globalImplicit := by decide +kernel
theorem lk_law_all : (defScope s_law).names.lookup ("all" : Str) = some .globalImplicit := by decide +kernel
theorem lk_law_int : (defScope s_law).names.lookup ("int" : Str) = some .globalImplicit := by decide +kernel
theorem lk_law_max : (defScope s_law).names.lookup ("max" : Str) = some .globalImplicit := by decide +kernel
theorem lk_law_plain : (defScope s_law).names.lookup ("plain" : Str) = some .globalImplicit := by decide +kernel
theorem lk_law_range : (defScope s_law).names.lookup ("range" : Str) = some .globalImplicit := by decide +kernel
theorem lk_law_scaled : (defScope s_law).names.lookup ("scaled" : Str) = some .globalImplicit := by decide +kernel
theorem lk_law_single : (defScope s_law).names.lookup ("single" : Str) = some .globalImplicit := by decide +kernel
abbrev NL : List Str := ["_law_script", "_law_one", "_law_other", "_law_cell", "_law_part_here", "_law_number_here", "_law_first", "_law_second", "_law_more", "_law_many", "_law_values", "_law_is_list"]
structure Kn (K : PySem.W.Frag) (H : Hp) (a : Addr) (ns : List Int) (r1 r pv : V) (S T : Su) (ap : Fq) : Prop where
  hS : SqL K H a (ns.map V.int)
  m1 : Sm K H r1 S
  mT : Sm K H r T
  w1 : Wf S
  wT : Wf T
  fp : IsF K H pv ap
  gp : Gd 101 ap
theorem Kn.same {K : PySem.W.Frag} {H H' : Hp} {a : Addr} {ns : List Int} {r1 r pv : V} {S T : Su} {ap : Fq} (s : Same H H') (h : Kn K H a ns r1 r pv S T ap) : Kn K H' a ns r1 r pv S T ap := ⟨s.seq h.hS, h.m1.same s, h.mT.same s, h.w1, h.wT, h.fp.same s, h.gp⟩
theorem law_11 {cdv : Value} {A : Around} {outer : List Env} {s : Shared} {H0 : Hp} {E : XK} {ff fg CB aN aO : Addr} {df dg : FuncData} {dV : Value} {ds : List Value} {CN CP C1 C2 C3 C4 C5 C6 C7 : Addr} {fDT fDS fDL fDC fDMu fDRf fDLs fDLt fDOf fDLw fDSh fDIs fDW fDCa fDSu fDMx fDPt fDNm fDAl fDSi fDAd fDP fDQ fDLa fDLp fDLm fDLW fDWo : Addr} {dDT dDS dDL dDC dDMu dDRf dDLs dDLt dDOf dDLw dDSh dDIs dDW dDCa dDSu dDMx dDPt dDNm dDAl dDSi dDAd dDP dDQ dDLa dDLp dDLm dDLW dDWo : FuncData} (hr : Room 8 (A.deeper (PyProof.Rows.envOfC "law" (defScope s_law) s.heap.objs.size f cdv))) (B : Blt mg) (C : Cst K mg aN aO) (X9 : Errs K mg CN CP C1 C2 C3 C4 C5 C6 C7) (D : DefD K mg "fraction" s_fraction dV ff df ["top", "bottom"] ds) (G : DefAt K mg "greatest_divisor" s_greatest_divisor fg dg ["one", "other"]) (X : BadF K mg CB) (DT : DefAt K mg "times" s_times fDT dDT ["one", "other"]) (DS : DefAt K mg "sign" s_sign fDS dDS ["one"]) (DL : DefAt K mg "plain" s_plain fDL dDL ["one"]) (DC : DefAt K mg "scaled" s_scaled fDC dDC ["one", "part"]) (DMu : DefAt K mg "multiplied" s_multiplied fDMu dDMu ["one", "other"]) (DRf : DefAt K mg "_law_refused" s_refused fDRf dDRf ["_law_one", "_law_other"]) (DLs : DefAt K mg "_law_scaled" s_lscaled fDLs dDLs ["_law_one", "_law_part_here"]) (DLt : DefAt K mg "_law_times" s_ltimes fDLt dDLt ["_law_one", "_law_other"]) (DOf : DefAt K mg "_law_of" s_of fDOf dDOf ["_law_constant", "_law_parts"]) (DLw : DefAt K mg "_law_low" s_low fDLw dDLw ["_law_top", "_law_bottom"]) (DSh : DefAt K mg "_law_shared" s_shared fDSh dDSh ["_law_one", "_law_other"]) (DIs : DefAt K mg "_law_is" s_is fDIs dDIs ["_law_found", "_law_due"]) (DW : DefAt K mg "_law_whole" s_whole fDW dDW ["_law_found"]) (DCa : DefAt K mg "_law_cell_at" s_cell_at fDCa dDCa ["_law_script", "_law_k"]) (DSu : DefAt K mg "_law_sum" s_sum fDSu dDSu ["_law_cell", "_law_more"]) (DMx : DefAt K mg "_law_mixed" s_mixed fDMx dDMx ["_law_cell", "_law_k"]) (DPt : DefAt K mg "_law_part" s_part fDPt dDPt ["_law_cell"]) (DNm : DefAt K mg "_law_number" s_number fDNm dDNm ["_law_cell", "_law_k"]) (DAl : DefAt K mg "_law_alike" s_alike fDAl dDAl ["_law_one", "_law_other", "_law_cell"]) (DSi : DefAt K mg "single" s_single fDSi dDSi ["number"]) (DAd : DefAt K mg "added" s_added fDAd dDAd ["one", "other"]) (DP : DefAt K mg "plus" s_plus fDP dDP ["one", "other"]) (DQ : DefAt K mg "pairs_of" s_pairs_of fDQ dDQ ["parts"]) (DLa : DefAt K mg "_law_added" s_ladded fDLa dDLa ["_law_one", "_law_other"]) (DLp : DefAt K mg "_law_plus" s_lplus fDLp dDLp ["_law_one", "_law_other"]) (DLm : DefAt K mg "_law_multiplied" s_lmul fDLm dDLm ["_law_one", "_law_other"]) (DLW : DefAt K mg "_law_worth" s_lworth fDLW dDLW ["_law_one", "_law_values", "_law_is_list"]) (DWo : DefAt K mg "worth" s_worth fDWo dDWo ["one", "values"]) : ∃ t, PSs (cxOf CX0 P w K mg base NL "law" (defScope s_law) f cdv A outer s H0 E).nox ((defBody s_law).drop 11) t ∧ ∀ (Q : VK) (a : Addr) (ns : List Int) (r1 r pv : V) (S T : Su) (ap : Fq) (c num : Int) (x y z : Option V) (mn : V) (Dv : Addr) (ys : List V) (vals : List Fq) (H' : Hp), (∀ H', Q (.bl true) H') → Kn K H' a ns r1 r pv S T ap → H' Dv = some (.lst ys) → Paired (IsF K H') ys vals → (∀ x ∈ vals, Gd 101 x) → (∀ m ∈ S.2 ++ T.2, m.1 < vals.length) → t { nx := fun _ H' => Q .non H', rt := Q } [some (.ref a), some r1, some r, some (.int c), some pv, some (.int num), x, y, z, some mn, some (.ref Dv), none] H' := by
  have OCa : FnOk P w K mg base CX0 1 fDCa dDCa ["_law_script", "_law_k"] (spCell K) := ok_cell_at DCa.F B
  have OLW : FnOk P w K mg base CX0 6 fDLW dDLW ["_law_one", "_law_values", "_law_is_list"] (spLW K) := ok_lworth DLW.F B D G X DP DT DWo DW DLp DLt DLw DSh
  have nd := sc_law.nd
  have hr1 : Room 1 _ := hr.mono (by decide)
  have hr6 : Room 6 _ := hr.mono (by decide)
  refine ⟨_, pss_cons (ps_set (i := 11) nd rfl (Or.inr lk_law__law_is_list) (pe_cmpR op_eq (pe_op op_mod (pe_op op_fdiv (pe_call OCa hr1 lk_law__law_cell_at DCa.m DCa.F.kp DCa.b .nil pass0 (pa_Name (pv 0 rfl (Or.inr (Or.inl lk_law__law_script))) (pa_Constant (pe_int) pa_nil))) (pe_int)) (pe_int)) (pe_int) (nomark _)))
    (pss_one (ps_ret (pe_callB (call_all rfl) lk_law_all B.all bt_all (pa_ListComp (pe_comp rfl (frees_of ["_law_some"] [("_law_values", 10), ("_law_is_list", 11)] ["_law_script", "_law_one", "_law_other", "_law_cell", "_law_part_here", "_law_number_here", "_law_first", "_law_second", "_law_more", "_law_many", "_law_values", "_law_is_list"] (by decide +kernel)) (visC s_law (by decide +kernel)) (by decide +kernel) rfl (by decide +kernel) (fun y hy => PySem.mem_of_lookup hy) (pi_tup (pe_tup (pa_Name (pv 1 rfl (Or.inl lk_law__law_one)) (pa_Name (pv 2 rfl (Or.inl lk_law__law_other)) (pa_Tuple (pe_tup (pa_Name (pv 4 rfl (Or.inl lk_law__law_part_here)) (pa_Tuple (pe_tup pa_nil) pa_nil))) pa_nil))))) (fun cl C s H fp pins => pg_name (i := 0) (show (["_law_some", "_law_values", "_law_is_list"] : List Str).Nodup by decide +kernel) rfl (Or.inl (c_loc (by decide +kernel))) (.inr (c_loc (by decide +kernel)))) (fun cl C s H fp pins => pif_nil) (fun cl C s H fp pins => pe_call OLW hr6 (c_gl (by decide +kernel)) DLW.m DLW.F.kp DLW.b .nil pass0 (pa_Name (pv 0 rfl (c_vloc (by decide +kernel))) (pa_Name (pv 1 rfl (c_free (by decide +kernel))) (pa_Name (pv 2 rfl (c_free (by decide +kernel))) pa_nil))))) pa_nil)))), ?_⟩
  intro Q a ns r1 r pv S T ap c num x y z mn Dv ys vals H' k kn eDv pvs gvl bd
  refine ⟨_, rfl, a, ns, 6, rfl, kn.hS, by decide, fun n6' => ⟨_, _, rfl, rfl, ⟨by decide, by decide⟩, _, _, rfl, rfl, (by show (0 : Int) < 2; decide), rfl, ?_⟩⟩
  -- worth
  refine ⟨_, rfl, _, rfl, _, rfl, Nat.zero_le _, fun u0 ku0 => ?_⟩
  have x0 : Same H' (upd H' u0 (.tup [])) := same_new ku0 _
  have y0 : upd H' u0 (.tup []) u0 = some (.tup []) := upd_same
  generalize upd H' u0 (.tup []) = G5 at x0 y0 ⊢
  refine ⟨(by show 2 ≤ sizeLine; decide), fun u1 ku1 => ?_⟩
  have x1' : Same G5 (upd G5 u1 (.tup [pv, .ref u0])) := same_new ku1 _
  have y1' : upd G5 u1 (.tup [pv, .ref u0]) u1 = some (.tup [pv, .ref u0]) := upd_same
  generalize upd G5 u1 (.tup [pv, .ref u0]) = G6 at x1' y1' ⊢
  refine ⟨(by show 3 ≤ sizeLine; decide), fun u2 ku2 => ?_⟩
  have x2' : Same G6 (upd G6 u2 (.tup [r1, r, .ref u1])) := same_new ku2 _
  have y2' : upd G6 u2 (.tup [r1, r, .ref u1]) u2 = some (.tup [r1, r, .ref u1]) := upd_same
  generalize upd G6 u2 (.tup [r1, r, .ref u1]) = G7 at x2' y2' ⊢
  have s47 : Same H' G7 := x0.trans (x1'.trans x2')
  have all3 : ∀ x ∈ ([r1, r, .ref u1] : List V), ∃ S' : Su, Sm K G7 x S' ∧ Wf S' ∧ ∀ m ∈ S'.2, m.1 < vals.length := by
    refine List.forall_mem_cons.mpr ⟨⟨S, kn.m1.same s47, kn.w1, fun m hm => ?_⟩, List.forall_mem_cons.mpr ⟨⟨T, kn.mT.same s47, kn.wT, fun m hm => ?_⟩, List.forall_mem_cons.mpr ⟨⟨(ap, []), ⟨u1, _, _, rfl, x2' _ _ y1', kn.fp.same s47, u0, [], rfl, x2' _ _ (x1' _ _ y0), .nil⟩, wf_plain kn.gp, fun m hm => nomatch hm⟩, List.forall_mem_nil _⟩⟩⟩
    · exact bd m (List.mem_append_left _ hm)
    · exact bd m (List.mem_append_right _ hm)
  refine ⟨u2, rfl, ⟨_, SqT.of y2'⟩, fun Dw hDw => ?_⟩
  refine comp_same (J := Itt K u2) (xs := [r1, r, .ref u1]) hDw (by show 3 < sizeLine; decide) (goT (SqT.of y2')) (stT (SqT.of y2')) (yT (SqT.of y2'))
    (fun i ys2 σ H' => (∃ z, σ = [z, some (.ref Dv), some (.bl (decide (V.int (n6' / 60 % 2) = V.int 1)))]) ∧ ys2 = List.replicate i (V.bl true)) ⟨⟨_, rfl⟩, rfl⟩ ?_ ?_
  · rintro i x ys2 σ HX hx ⟨⟨z, rfl⟩, rfl⟩ eD sm' Ry Rn hY hN
    obtain ⟨S', mS', wS', bS'⟩ := all3 x (List.mem_of_getElem? hx)
    have sX : Same G7 HX := sm'.trans hid_le
    exact ⟨_, rfl, _, rfl, _, rfl, x, Dv, _, S', ys, vals, rfl, mS'.same sX, wS', sX _ _ (s47 _ _ eDv), Paired.mapP pvs fun _ _ q => (q.same s47).same sX, gvl, bS', fun HY sY => hY _ _ _ sY ⟨⟨_, rfl⟩, rep_snoc i (V.bl true)⟩⟩
  rintro ys2 σ2 G8 ⟨_, rfl⟩ eDw smw
  refine ⟨Dw, List.replicate 3 true, rfl, SqL.of (by rw [List.map_replicate]; exact eDw), ?_⟩
  rw [rep_all]
  exact k _
theorem law_9 {cdv : Value} {A : Around} {outer : List Env} {s : Shared} {H0 : Hp} {E : XK} {ff fg CB aN aO : Addr} {df dg : FuncData} {dV : Value} {ds : List Value} {CN CP C1 C2 C3 C4 C5 C6 C7 : Addr} {fDT fDS fDL fDC fDMu fDRf fDLs fDLt fDOf fDLw fDSh fDIs fDW fDCa fDSu fDMx fDPt fDNm fDAl fDSi fDAd fDP fDQ fDLa fDLp fDLm fDLW fDWo : Addr} {dDT dDS dDL dDC dDMu dDRf dDLs dDLt dDOf dDLw dDSh dDIs dDW dDCa dDSu dDMx dDPt dDNm dDAl dDSi dDAd dDP dDQ dDLa dDLp dDLm dDLW dDWo : FuncData} (hr : Room 8 (A.deeper (PyProof.Rows.envOfC "law" (defScope s_law) s.heap.objs.size f cdv))) (B : Blt mg) (C : Cst K mg aN aO) (X9 : Errs K mg CN CP C1 C2 C3 C4 C5 C6 C7) (D : DefD K mg "fraction" s_fraction dV ff df ["top", "bottom"] ds) (G : DefAt K mg "greatest_divisor" s_greatest_divisor fg dg ["one", "other"]) (X : BadF K mg CB) (DT : DefAt K mg "times" s_times fDT dDT ["one", "other"]) (DS : DefAt K mg "sign" s_sign fDS dDS ["one"]) (DL : DefAt K mg "plain" s_plain fDL dDL ["one"]) (DC : DefAt K mg "scaled" s_scaled fDC dDC ["one", "part"]) (DMu : DefAt K mg "multiplied" s_multiplied fDMu dDMu ["one", "other"]) (DRf : DefAt K mg "_law_refused" s_refused fDRf dDRf ["_law_one", "_law_other"]) (DLs : DefAt K mg "_law_scaled" s_lscaled fDLs dDLs ["_law_one", "_law_part_here"]) (DLt : DefAt K mg "_law_times" s_ltimes fDLt dDLt ["_law_one", "_law_other"]) (DOf : DefAt K mg "_law_of" s_of fDOf dDOf ["_law_constant", "_law_parts"]) (DLw : DefAt K mg "_law_low" s_low fDLw dDLw ["_law_top", "_law_bottom"]) (DSh : DefAt K mg "_law_shared" s_shared fDSh dDSh ["_law_one", "_law_other"]) (DIs : DefAt K mg "_law_is" s_is fDIs dDIs ["_law_found", "_law_due"]) (DW : DefAt K mg "_law_whole" s_whole fDW dDW ["_law_found"]) (DCa : DefAt K mg "_law_cell_at" s_cell_at fDCa dDCa ["_law_script", "_law_k"]) (DSu : DefAt K mg "_law_sum" s_sum fDSu dDSu ["_law_cell", "_law_more"]) (DMx : DefAt K mg "_law_mixed" s_mixed fDMx dDMx ["_law_cell", "_law_k"]) (DPt : DefAt K mg "_law_part" s_part fDPt dDPt ["_law_cell"]) (DNm : DefAt K mg "_law_number" s_number fDNm dDNm ["_law_cell", "_law_k"]) (DAl : DefAt K mg "_law_alike" s_alike fDAl dDAl ["_law_one", "_law_other", "_law_cell"]) (DSi : DefAt K mg "single" s_single fDSi dDSi ["number"]) (DAd : DefAt K mg "added" s_added fDAd dDAd ["one", "other"]) (DP : DefAt K mg "plus" s_plus fDP dDP ["one", "other"]) (DQ : DefAt K mg "pairs_of" s_pairs_of fDQ dDQ ["parts"]) (DLa : DefAt K mg "_law_added" s_ladded fDLa dDLa ["_law_one", "_law_other"]) (DLp : DefAt K mg "_law_plus" s_lplus fDLp dDLp ["_law_one", "_law_other"]) (DLm : DefAt K mg "_law_multiplied" s_lmul fDLm dDLm ["_law_one", "_law_other"]) (DLW : DefAt K mg "_law_worth" s_lworth fDLW dDLW ["_law_one", "_law_values", "_law_is_list"]) (DWo : DefAt K mg "worth" s_worth fDWo dDWo ["one", "values"]) : ∃ t, PSs (cxOf CX0 P w K mg base NL "law" (defScope s_law) f cdv A outer s H0 E).nox ((defBody s_law).drop 9) t ∧ ∀ (Q : VK) (a : Addr) (ns : List Int) (r1 r pv : V) (S T : Su) (ap : Fq) (c num : Int) (x y z : Option V) (H' : Hp), (∀ H', Q (.bl true) H') → Kn K H' a ns r1 r pv S T ap → t { nx := fun _ H' => Q .non H', rt := Q } [some (.ref a), some r1, some r, some (.int c), some pv, some (.int num), x, y, z, none, none, none] H' := by
  have OCa : FnOk P w K mg base CX0 1 fDCa dDCa ["_law_script", "_law_k"] (spCell K) := ok_cell_at DCa.F B
  have OPt : FnOk P w K mg base CX0 3 fDPt dDPt ["_law_cell"] (spPart K) := ok_part DPt.F B DLw DSh DNm DMx
  have OMx : FnOk P w K mg base CX0 1 fDMx dDMx ["_law_cell", "_law_k"] spMixed := ok_mixed DMx.F
  obtain ⟨tN, hN, r11⟩ := law_11 (P := P) (w := w) (base := base) (outer := outer) (H0 := H0) (E := E) hr B C X9 D G X DT DS DL DC DMu DRf DLs DLt DOf DLw DSh DIs DW DCa DSu DMx DPt DNm DAl DSi DAd DP DQ DLa DLp DLm DLW DWo
  have nd := sc_law.nd
  have hr1 : Room 1 _ := hr.mono (by decide)
  have hr3 : Room 3 _ := hr.mono (by decide)
  refine ⟨_, pss_cons (ps_set (i := 9) nd rfl (Or.inl lk_law__law_many) (pe_callB (call_maxL (K := K) rfl rfl) lk_law_max B.max bt_max (pa_BinOp (pe_op op_cat (pe_lst (pa_Constant (pe_int) pa_nil)) (pe_comp rfl (frees_of ["_law_pair"] [] ["_law_script", "_law_one", "_law_other", "_law_cell", "_law_part_here", "_law_number_here", "_law_first", "_law_second", "_law_more", "_law_many", "_law_values", "_law_is_list"] (by decide +kernel)) (noFree rfl) (by decide +kernel) rfl (by decide +kernel) (fun y hy => PySem.mem_of_lookup hy) (pi_tup (pe_op (op_catA (K := K) rfl) (pe_ix ix_tup (pv 1 rfl (Or.inl lk_law__law_one)) (pe_int) (fun _ _ => rfl)) (pe_ix ix_tup (pv 2 rfl (Or.inl lk_law__law_other)) (pe_int) (fun _ _ => rfl)))) (fun cl C s H fp pins => pg_name (i := 0) (show (["_law_pair"] : List Str).Nodup by decide +kernel) rfl (Or.inl (c_loc (by decide +kernel))) (.inr (c_loc (by decide +kernel)))) (fun cl C s H fp pins => pif_nil) (fun cl C s H fp pins => pe_op op_add (pe_ix (ix_tupK (K := K) rfl) (pv 0 rfl (c_vloc (by decide +kernel))) (pe_int) (fun _ _ => rfl)) (pe_int)))) pa_nil)))
    (pss_cons (ps_set (i := 10) nd rfl (Or.inr lk_law__law_values) (pe_comp rfl (frees_of ["_law_k"] [("_law_script", 0)] ["_law_script", "_law_one", "_law_other", "_law_cell", "_law_part_here", "_law_number_here", "_law_first", "_law_second", "_law_more", "_law_many", "_law_values", "_law_is_list"] (by decide +kernel)) (visC s_law (by decide +kernel)) (by decide +kernel) rfl (by decide +kernel) (fun y hy => PySem.mem_of_lookup hy) (pi_range1 lk_law_range B.range (pa_Name (pv 9 rfl (Or.inl lk_law__law_many)) pa_nil)) (fun cl C s H fp pins => pg_name (i := 0) (show (["_law_k", "_law_script"] : List Str).Nodup by decide +kernel) rfl (Or.inl (c_loc (by decide +kernel))) (.inr (c_loc (by decide +kernel)))) (fun cl C s H fp pins => pif_nil) (fun cl C s H fp pins => pe_call OPt hr3 (c_gl (by decide +kernel)) DPt.m DPt.F.kp DPt.b .nil pass0 (pa_Call (pe_call OMx hr1 (c_gl (by decide +kernel)) DMx.m DMx.F.kp DMx.b .nil pass0 (pa_Call (pe_call OCa hr1 (c_gl (by decide +kernel)) DCa.m DCa.F.kp DCa.b .nil pass0 (pa_Name (pv 1 rfl (c_free (by decide +kernel))) (pa_Constant (pe_int) pa_nil))) (pa_BinOp (pe_op op_mul (pe_int) (pv 0 rfl (c_vloc (by decide +kernel)))) pa_nil))) pa_nil))))
    (hN)), ?_⟩
  intro Q a ns r1 r pv S T ap c num x y z H' k kn
  obtain ⟨po1, cv1, pv1, e11, ho1, hc1, pp1, vs1, e12, hpp1, pr1⟩ := id kn.m1
  subst e11 e12
  obtain ⟨po2, cv2, pv2, e21, ho2, hc2, pp2, vs2, e22, hpp2, pr2⟩ := id kn.mT
  subst e21 e22
  -- how many values
  refine ⟨(by show 1 ≤ sizeLine; decide), fun l0 hl0 => ?_⟩
  have t0' : Same H' (upd H' l0 (.lst [.int 0])) := same_new hl0 _
  have f0' : upd H' l0 (.lst [.int 0]) l0 = some (.lst [.int 0]) := upd_same
  generalize upd H' l0 (.lst [.int 0]) = G0 at t0' f0' ⊢
  have lv1 : vs1.length = S.2.length := pr1.length
  have lv2 : vs2.length = T.2.length := pr2.length
  have lS := kn.w1.l
  have lT := kn.wT.l
  refine ⟨_, rfl, po1, _, _, _, rfl, rfl, SqT.of (t0' _ _ ho1), rfl, _, rfl, po2, _, _, _, rfl, rfl, SqT.of (t0' _ _ ho2), rfl, pp1, pp2, vs1, vs2, rfl, rfl, SqT.of (t0' _ _ hpp1), SqT.of (t0' _ _ hpp2), by rw [lv1, lv2, PySem.sizeLine_eq]; omega, fun rc G1 t1' sc1 => ?_⟩
  have prc : Paired (Pr K G1) (vs1 ++ vs2) (S.2 ++ T.2) := paired_app (Paired.mapP pr1 fun _ _ q => q.same (t0'.trans t1')) (Paired.mapP pr2 fun _ _ q => q.same (t0'.trans t1'))
  have lc : (vs1 ++ vs2).length = (S.2 ++ T.2).length := prc.length
  refine ⟨rc, rfl, ⟨_, sc1⟩, fun Dm hDm => ?_⟩
  refine comp_same (J := Itt K rc) (xs := vs1 ++ vs2) hDm (by rw [List.length_append, lv1, lv2, PySem.sizeLine_eq]; omega) (goT sc1) (stT sc1) (yT sc1)
    (fun i ys σ H' => (∃ z, σ = [z]) ∧ ys = ((S.2 ++ T.2).take i).map (fun m => V.int (m.1 + 1))) ⟨⟨_, rfl⟩, rfl⟩ ?_ ?_
  · rintro i x ys σ HX hx ⟨⟨z, rfl⟩, rfl⟩ eD sm' Ry Rn hY hN
    have hi : i < (S.2 ++ T.2).length := by rw [← lc]; exact (List.getElem?_eq_some_iff.mp hx).1
    have hm := List.getElem?_eq_getElem hi
    obtain ⟨q, fv, rfl, sq, hf⟩ := (pair_get prc i _ _ hx hm).same (sm'.trans hid_le)
    refine ⟨_, rfl, q, _, _, _, rfl, rfl, sq, rfl, _, _, rfl, rfl, hY _ _ _ Same.refl' ⟨⟨_, rfl⟩, ?_⟩⟩
    rw [take_next hm, List.map_append]
    rfl
  rintro ys σ G2 ⟨_, ey⟩ eDm sm2
  subst ey
  rw [lc, List.take_length] at eDm
  have t2' : Same G1 G2 := sm2.trans hid_le
  refine ⟨l0, Dm, _, _, rfl, rfl, t2' _ _ (t1' _ _ f0'), eDm, by rw [List.length_map, List.length_append, PySem.sizeLine_eq]; show 1 + _ ≤ _; omega, fun lm hlm => ?_⟩
  have t3' : Same G2 (upd G2 lm (.lst ([.int 0] ++ (S.2 ++ T.2).map (fun m => V.int (m.1 + 1))))) := same_new hlm _
  have f3' : upd G2 lm (.lst ([.int 0] ++ (S.2 ++ T.2).map (fun m => V.int (m.1 + 1)))) lm = some (.lst (((0 : Int) :: (S.2 ++ T.2).map (fun m => m.1 + 1)).map V.int)) := by
    rw [upd_same, List.map_cons, List.map_map]
    rfl
  generalize upd G2 lm (.lst ([.int 0] ++ (S.2 ++ T.2).map (fun m => V.int (m.1 + 1)))) = G3 at t3' f3' ⊢
  refine ⟨lm, _, rfl, SqL.of f3', by rw [List.length_cons]; exact Nat.succ_pos _, fun M hM hmax => ?_⟩
  have M0 : 0 ≤ M := hmax 0 (.head _)
  have Mm : ∀ m ∈ S.2 ++ T.2, m.1 + 1 ≤ M := fun m hm => hmax _ (.tail _ (List.mem_map.mpr ⟨m, hm, rfl⟩))
  have M60 : M ≤ 60 := by
    rcases List.mem_cons.mp hM with rfl | hM
    · decide
    · obtain ⟨m, hm, rfl⟩ := List.mem_map.mp hM
      rcases List.mem_append.mp hm with hm | hm
      · have := (kn.w1.p m hm).2.2.2; omega
      · have := (kn.wT.p m hm).2.2.2; omega
  obtain ⟨n, rfl⟩ := Int.eq_ofNat_of_zero_le M0
  have sG3 : Same H' G3 := t0'.trans (t1'.trans (t2'.trans t3'))
  have hS3 := sG3.seq kn.hS
  have n60 : n ≤ 60 := by omega
  -- the values
  refine ⟨_, rfl, n, rfl, by omega, by omega, fun Dv hDv => ?_⟩
  refine comp_same (J := Itr 0 n) (xs := (List.range n).map fun (k : Nat) => V.int (0 + k)) hDv (by rw [List.length_map, List.length_range, PySem.sizeLine_eq]; omega) goR stR yR
    (fun i ys σ H' => (∃ z, σ = [z, some (.ref a)]) ∧ ∃ vals : List Fq, vals.length = i ∧ Paired (IsF K H') ys vals ∧ ∀ x ∈ vals, Gd 101 x) ⟨⟨_, rfl⟩, [], rfl, .nil, fun x hx => nomatch hx⟩ ?_ ?_
  · rintro i x ys σ HX hx ⟨⟨z, rfl⟩, vals, lvl, pvl, gvl⟩ eD sm' Ry Rn hY hN
    rw [List.getElem?_map] at hx
    obtain ⟨j, hj, rfl⟩ := Option.map_eq_some_iff.mp hx
    have hj' : j < n := List.mem_range.mp (List.mem_of_getElem? hj)
    have sX : Same G3 HX := sm'.trans hid_le
    refine ⟨_, rfl, a, ns, 7, rfl, sX.seq hS3, by decide, fun n7 => ?_⟩
    refine ⟨_, rfl, _, _, rfl, rfl, .inl ⟨by decide, by decide⟩, n7, 3 * (0 + (j : Int)), rfl, by omega, by omega, fun m7 _ _ => ?_⟩
    refine ⟨m7, rfl, fun rv av HY sY fY gY => hY _ _ _ sY ⟨⟨_, rfl⟩, vals ++ [av], by rw [List.length_append, lvl]; rfl, ?_, ?_⟩⟩
    · exact Paired.snoc (Paired.mapP pvl fun _ _ q => q.same (hid_same sY)) (IsF.hid (sY _ _ eD) fY)
    · intro x hx
      rcases List.mem_append.mp hx with hx | hx
      · exact gvl x hx
      · rw [List.mem_singleton.mp hx]; exact gY
  rintro ys σ G4 ⟨_, vals, lvl, pvl, gvl⟩ eDv sm4
  have t4' : Same G3 G4 := sm4.trans hid_le
  have pv4 : Paired (IsF K G4) ys vals := Paired.mapP pvl fun _ _ q => q.same hid_le
  have lvn : vals.length = n := by rw [lvl, List.length_map, List.length_range]
  have sG4 : Same H' G4 := sG3.trans t4'
  exact r11 Q a ns _ _ pv S T ap c num x y z _ Dv ys vals G4 k (kn.same sG4) eDv pv4 gvl fun m hm => by
    have := Mm m hm
    omega
theorem law_8 {cdv : Value} {A : Around} {outer : List Env} {s : Shared} {H0 : Hp} {E : XK} {ff fg CB aN aO : Addr} {df dg : FuncData} {dV : Value} {ds : List Value} {CN CP C1 C2 C3 C4 C5 C6 C7 : Addr} {fDT fDS fDL fDC fDMu fDRf fDLs fDLt fDOf fDLw fDSh fDIs fDW fDCa fDSu fDMx fDPt fDNm fDAl fDSi fDAd fDP fDQ fDLa fDLp fDLm fDLW fDWo : Addr} {dDT dDS dDL dDC dDMu dDRf dDLs dDLt dDOf dDLw dDSh dDIs dDW dDCa dDSu dDMx dDPt dDNm dDAl dDSi dDAd dDP dDQ dDLa dDLp dDLm dDLW dDWo : FuncData} (hr : Room 8 (A.deeper (PyProof.Rows.envOfC "law" (defScope s_law) s.heap.objs.size f cdv))) (B : Blt mg) (C : Cst K mg aN aO) (X9 : Errs K mg CN CP C1 C2 C3 C4 C5 C6 C7) (D : DefD K mg "fraction" s_fraction dV ff df ["top", "bottom"] ds) (G : DefAt K mg "greatest_divisor" s_greatest_divisor fg dg ["one", "other"]) (X : BadF K mg CB) (DT : DefAt K mg "times" s_times fDT dDT ["one", "other"]) (DS : DefAt K mg "sign" s_sign fDS dDS ["one"]) (DL : DefAt K mg "plain" s_plain fDL dDL ["one"]) (DC : DefAt K mg "scaled" s_scaled fDC dDC ["one", "part"]) (DMu : DefAt K mg "multiplied" s_multiplied fDMu dDMu ["one", "other"]) (DRf : DefAt K mg "_law_refused" s_refused fDRf dDRf ["_law_one", "_law_other"]) (DLs : DefAt K mg "_law_scaled" s_lscaled fDLs dDLs ["_law_one", "_law_part_here"]) (DLt : DefAt K mg "_law_times" s_ltimes fDLt dDLt ["_law_one", "_law_other"]) (DOf : DefAt K mg "_law_of" s_of fDOf dDOf ["_law_constant", "_law_parts"]) (DLw : DefAt K mg "_law_low" s_low fDLw dDLw ["_law_top", "_law_bottom"]) (DSh : DefAt K mg "_law_shared" s_shared fDSh dDSh ["_law_one", "_law_other"]) (DIs : DefAt K mg "_law_is" s_is fDIs dDIs ["_law_found", "_law_due"]) (DW : DefAt K mg "_law_whole" s_whole fDW dDW ["_law_found"]) (DCa : DefAt K mg "_law_cell_at" s_cell_at fDCa dDCa ["_law_script", "_law_k"]) (DSu : DefAt K mg "_law_sum" s_sum fDSu dDSu ["_law_cell", "_law_more"]) (DMx : DefAt K mg "_law_mixed" s_mixed fDMx dDMx ["_law_cell", "_law_k"]) (DPt : DefAt K mg "_law_part" s_part fDPt dDPt ["_law_cell"]) (DNm : DefAt K mg "_law_number" s_number fDNm dDNm ["_law_cell", "_law_k"]) (DAl : DefAt K mg "_law_alike" s_alike fDAl dDAl ["_law_one", "_law_other", "_law_cell"]) (DSi : DefAt K mg "single" s_single fDSi dDSi ["number"]) (DAd : DefAt K mg "added" s_added fDAd dDAd ["one", "other"]) (DP : DefAt K mg "plus" s_plus fDP dDP ["one", "other"]) (DQ : DefAt K mg "pairs_of" s_pairs_of fDQ dDQ ["parts"]) (DLa : DefAt K mg "_law_added" s_ladded fDLa dDLa ["_law_one", "_law_other"]) (DLp : DefAt K mg "_law_plus" s_lplus fDLp dDLp ["_law_one", "_law_other"]) (DLm : DefAt K mg "_law_multiplied" s_lmul fDLm dDLm ["_law_one", "_law_other"]) (DLW : DefAt K mg "_law_worth" s_lworth fDLW dDLW ["_law_one", "_law_values", "_law_is_list"]) (DWo : DefAt K mg "worth" s_worth fDWo dDWo ["one", "values"]) : ∃ t, PSs (cxOf CX0 P w K mg base NL "law" (defScope s_law) f cdv A outer s H0 E).nox ((defBody s_law).drop 8) t ∧ ∀ (Q : VK) (a : Addr) (ns : List Int) (r1 r pv : V) (S T : Su) (ap : Fq) (c num : Int) (x y : Option V) (H' : Hp), (∀ H', Q (.bl true) H') → Kn K H' a ns r1 r pv S T ap → t { nx := fun _ H' => Q .non H', rt := Q } [some (.ref a), some r1, some r, some (.int c), some pv, some (.int num), x, y, none, none, none, none] H' := by
  have OIs : FnOk P w K mg base CX0 2 fDIs dDIs ["_law_found", "_law_due"] (spIs K) := ok_is DIs.F B DW
  have OC : FnOk P w K mg base CX0 5 fDC dDC ["one", "part"] (spScale K scaleP) := ok_scaled DC.F B C D G X DT DS DL
  have OLs : FnOk P w K mg base CX0 4 fDLs dDLs ["_law_one", "_law_part_here"] (spScale K scaleP) := ok_lscaled DLs.F B DLt DOf DLw DSh
  obtain ⟨tN, hN, r9⟩ := law_9 (P := P) (w := w) (base := base) (outer := outer) (H0 := H0) (E := E) hr B C X9 D G X DT DS DL DC DMu DRf DLs DLt DOf DLw DSh DIs DW DCa DSu DMx DPt DNm DAl DSi DAd DP DQ DLa DLp DLm DLW DWo
  have nd := sc_law.nd
  have hr2 : Room 2 _ := hr.mono (by decide)
  have hr4 : Room 4 _ := hr.mono (by decide)
  have hr5 : Room 5 _ := hr.mono (by decide)
  refine ⟨_, pss_cons (ps_for PassesOwn.never rfl (pi_list (pe_lst (pa_Tuple (pe_tup (pa_Name (pv 1 rfl (Or.inl lk_law__law_one)) (pa_Name (pv 4 rfl (Or.inl lk_law__law_part_here)) pa_nil))) (pa_Tuple (pe_tup (pa_Name (pv 2 rfl (Or.inl lk_law__law_other)) (pa_Tuple (pe_tup (pa_UnaryOp (pe_un un_neg (pe_int)) (pa_Constant (pe_int) pa_nil))) pa_nil))) (pa_Tuple (pe_tup (pa_Name (pv 2 rfl (Or.inl lk_law__law_other)) (pa_Name (pv 4 rfl (Or.inl lk_law__law_part_here)) pa_nil))) pa_nil))))) (pg_tup rfl (pgs_cons (pg_name (i := 6) nd rfl (Or.inl lk_law__law_first)) (pgs_cons (pg_name (i := 8) nd rfl (Or.inl lk_law__law_more)) (pgs_nil)))) (pss_one (ps_if (pt_not (pt_val (pe_call OIs hr2 lk_law__law_is DIs.m DIs.F.kp DIs.b .nil pass0 (pa_Call (pe_call OC hr5 lk_law_scaled DC.m DC.F.kp DC.b .nil pass0 (pa_Name (pv 6 rfl (Or.inl lk_law__law_first)) (pa_Name (pv 8 rfl (Or.inl lk_law__law_more)) pa_nil))) (pa_Call (pe_call OLs hr4 lk_law__law_scaled DLs.m DLs.F.kp DLs.b .nil pass0 (pa_Name (pv 6 rfl (Or.inl lk_law__law_first)) (pa_Name (pv 8 rfl (Or.inl lk_law__law_more)) pa_nil))) pa_nil))))) (pss_one (ps_ret (pe_bl))) (pss_nil))))
    (hN), ?_⟩
  intro Q a ns r1 r pv S T ap c num x y H' k kn
  -- the three
  refine ⟨_, rfl, _, rfl, (by show 2 ≤ sizeLine; decide), fun pl hl => ?_⟩
  have sl : Same H' (upd H' pl (.tup [r1, pv])) := same_new hl _
  have el : upd H' pl (.tup [r1, pv]) pl = some (.tup [r1, pv]) := upd_same
  generalize upd H' pl (.tup [r1, pv]) = Hl at sl el ⊢
  refine ⟨_, rfl, 1, rfl, (by show 2 ≤ sizeLine; decide), fun pm hm => ?_⟩
  have sm : Same Hl (upd Hl pm (.tup [.int (-1), .int 1])) := same_new hm _
  have em : upd Hl pm (.tup [.int (-1), .int 1]) pm = some (.tup [.int (-1), .int 1]) := upd_same
  generalize upd Hl pm (.tup [.int (-1), .int 1]) = Hm at sm em ⊢
  refine ⟨(by show 2 ≤ sizeLine; decide), fun pn hn => ?_⟩
  have sn : Same Hm (upd Hm pn (.tup [r, .ref pm])) := same_new hn _
  have en : upd Hm pn (.tup [r, .ref pm]) pn = some (.tup [r, .ref pm]) := upd_same
  generalize upd Hm pn (.tup [r, .ref pm]) = Hn at sn en ⊢
  refine ⟨_, rfl, _, rfl, (by show 2 ≤ sizeLine; decide), fun po ho => ?_⟩
  have so : Same Hn (upd Hn po (.tup [r, pv])) := same_new ho _
  have eo : upd Hn po (.tup [r, pv]) po = some (.tup [r, pv]) := upd_same
  generalize upd Hn po (.tup [r, pv]) = Ho at so eo ⊢
  refine ⟨(by show 3 ≤ sizeLine; decide), fun pp hp => ?_⟩
  have sp : Same Ho (upd Ho pp (.lst [.ref pl, .ref pn, .ref po])) := same_new hp _
  have ep : upd Ho pp (.lst [.ref pl, .ref pn, .ref po]) pp = some (.lst [.ref pl, .ref pn, .ref po]) := upd_same
  generalize upd Ho pp (.lst [.ref pl, .ref pn, .ref po]) = Hp at sp ep ⊢
  have v0 : Same H' Hp := sl.trans (sm.trans (sn.trans (so.trans sp)))
  have vl : Same Hl Hp := sm.trans (sn.trans (so.trans sp))
  have vm : Same Hm Hp := sn.trans (so.trans sp)
  have vn : Same Hn Hp := so.trans sp
  have three : ∀ x ∈ ([.ref pl, .ref pn, .ref po] : List V), TwoF K Hp x := by
    have m1p := kn.m1.same v0
    have mTp := kn.mT.same v0
    have fvp := kn.fp.same v0
    refine List.forall_mem_cons.mpr ⟨⟨pl, _, _, S, ap, rfl, SqT.of (vl _ _ el), m1p, fvp, kn.w1, kn.gp⟩, List.forall_mem_cons.mpr ⟨⟨pn, _, _, T, (-1, 1), rfl, SqT.of (vn _ _ en), mTp, ⟨pm, rfl, SqT.of (vm _ _ em)⟩, kn.wT, gd_neg (by decide)⟩, List.forall_mem_cons.mpr ⟨⟨po, _, _, T, ap, rfl, SqT.of (sp _ _ eo), mTp, fvp, kn.wT, kn.gp⟩, List.forall_mem_nil _⟩⟩⟩
  refine ⟨pp, rfl, ⟨_, SqL.of ep⟩, ?_⟩
  refine for_list (xs := [.ref pl, .ref pn, .ref po]) (fun i σ H'' => ∃ x y z : Option V, σ = [some (.ref a), some r1, some r, some (.int c), some pv, some (.int num), x, y, z, none, none, none] ∧ Same Hp H'') ⟨x, y, none, rfl, Same.refl'⟩ (fun i σ H'' _ h => ?_) (fun i x σ H'' hx h => ?_) (fun σ H'' h => ?_)
  · obtain ⟨_, _, _, _, sm⟩ := h
    exact SqL.of (sm _ _ ep)
  · obtain ⟨x2, y2, z2, rfl, sm⟩ := h
    obtain ⟨q, u, v, S', a', rfl, sq, mu, fv, wu, ga⟩ := (three x (List.mem_of_getElem? hx)).same sm
    refine ⟨q, _, rfl, sq, rfl, _, _, rfl, _, _, rfl, rfl, ?_⟩
    refine ⟨_, rfl, _, rfl, u, v, S', a', rfl, mu, fv, wu, ga, fun rA' HA' sA' mA' => ?_⟩
    refine ⟨_, rfl, _, rfl, u, v, S', a', rfl, mu.same sA', fv.same sA', wu, ga, fun rB' HB' sB' mB' => ?_⟩
    refine ⟨rA', rB', scaleP S' a', rfl, mA'.same sB', mB', Nat.le_trans (scale_len wu) (by decide), fun HC' sC' => ⟨true, rfl, iteN rfl ?_⟩⟩
    exact ⟨_, _, _, rfl, sm.trans (sA'.trans (sB'.trans sC'))⟩
  obtain ⟨x2, y2, z2, rfl, sQ⟩ := h
  exact r9 Q a ns r1 r pv S T ap c num x2 y2 z2 H'' k (kn.same (v0.trans sQ))
theorem law_7 {cdv : Value} {A : Around} {outer : List Env} {s : Shared} {H0 : Hp} {E : XK} {ff fg CB aN aO : Addr} {df dg : FuncData} {dV : Value} {ds : List Value} {CN CP C1 C2 C3 C4 C5 C6 C7 : Addr} {fDT fDS fDL fDC fDMu fDRf fDLs fDLt fDOf fDLw fDSh fDIs fDW fDCa fDSu fDMx fDPt fDNm fDAl fDSi fDAd fDP fDQ fDLa fDLp fDLm fDLW fDWo : Addr} {dDT dDS dDL dDC dDMu dDRf dDLs dDLt dDOf dDLw dDSh dDIs dDW dDCa dDSu dDMx dDPt dDNm dDAl dDSi dDAd dDP dDQ dDLa dDLp dDLm dDLW dDWo : FuncData} (hr : Room 8 (A.deeper (PyProof.Rows.envOfC "law" (defScope s_law) s.heap.objs.size f cdv))) (B : Blt mg) (C : Cst K mg aN aO) (X9 : Errs K mg CN CP C1 C2 C3 C4 C5 C6 C7) (D : DefD K mg "fraction" s_fraction dV ff df ["top", "bottom"] ds) (G : DefAt K mg "greatest_divisor" s_greatest_divisor fg dg ["one", "other"]) (X : BadF K mg CB) (DT : DefAt K mg "times" s_times fDT dDT ["one", "other"]) (DS : DefAt K mg "sign" s_sign fDS dDS ["one"]) (DL : DefAt K mg "plain" s_plain fDL dDL ["one"]) (DC : DefAt K mg "scaled" s_scaled fDC dDC ["one", "part"]) (DMu : DefAt K mg "multiplied" s_multiplied fDMu dDMu ["one", "other"]) (DRf : DefAt K mg "_law_refused" s_refused fDRf dDRf ["_law_one", "_law_other"]) (DLs : DefAt K mg "_law_scaled" s_lscaled fDLs dDLs ["_law_one", "_law_part_here"]) (DLt : DefAt K mg "_law_times" s_ltimes fDLt dDLt ["_law_one", "_law_other"]) (DOf : DefAt K mg "_law_of" s_of fDOf dDOf ["_law_constant", "_law_parts"]) (DLw : DefAt K mg "_law_low" s_low fDLw dDLw ["_law_top", "_law_bottom"]) (DSh : DefAt K mg "_law_shared" s_shared fDSh dDSh ["_law_one", "_law_other"]) (DIs : DefAt K mg "_law_is" s_is fDIs dDIs ["_law_found", "_law_due"]) (DW : DefAt K mg "_law_whole" s_whole fDW dDW ["_law_found"]) (DCa : DefAt K mg "_law_cell_at" s_cell_at fDCa dDCa ["_law_script", "_law_k"]) (DSu : DefAt K mg "_law_sum" s_sum fDSu dDSu ["_law_cell", "_law_more"]) (DMx : DefAt K mg "_law_mixed" s_mixed fDMx dDMx ["_law_cell", "_law_k"]) (DPt : DefAt K mg "_law_part" s_part fDPt dDPt ["_law_cell"]) (DNm : DefAt K mg "_law_number" s_number fDNm dDNm ["_law_cell", "_law_k"]) (DAl : DefAt K mg "_law_alike" s_alike fDAl dDAl ["_law_one", "_law_other", "_law_cell"]) (DSi : DefAt K mg "single" s_single fDSi dDSi ["number"]) (DAd : DefAt K mg "added" s_added fDAd dDAd ["one", "other"]) (DP : DefAt K mg "plus" s_plus fDP dDP ["one", "other"]) (DQ : DefAt K mg "pairs_of" s_pairs_of fDQ dDQ ["parts"]) (DLa : DefAt K mg "_law_added" s_ladded fDLa dDLa ["_law_one", "_law_other"]) (DLp : DefAt K mg "_law_plus" s_lplus fDLp dDLp ["_law_one", "_law_other"]) (DLm : DefAt K mg "_law_multiplied" s_lmul fDLm dDLm ["_law_one", "_law_other"]) (DLW : DefAt K mg "_law_worth" s_lworth fDLW dDLW ["_law_one", "_law_values", "_law_is_list"]) (DWo : DefAt K mg "worth" s_worth fDWo dDWo ["one", "values"]) : ∃ t, PSs (cxOf CX0 P w K mg base NL "law" (defScope s_law) f cdv A outer s H0 E).nox ((defBody s_law).drop 7) t ∧ ∀ (Q : VK) (a : Addr) (ns : List Int) (r1 r pv : V) (S T : Su) (ap : Fq) (c num : Int) (Hf : Hp), (∀ H', Q (.bl true) H') → Kn K Hf a ns r1 r pv S T ap → t { nx := fun _ H' => Q .non H', rt := Q } [some (.ref a), some r1, some r, some (.int c), some pv, some (.int num), none, none, none, none, none, none] Hf := by
  have OIs : FnOk P w K mg base CX0 2 fDIs dDIs ["_law_found", "_law_due"] (spIs K) := ok_is DIs.F B DW
  have OAd : FnOk P w K mg base CX0 5 fDAd dDAd ["one", "other"] (spAdd K addP) := ok_added DAd.F B C D G X DP DS DQ
  have OLa : FnOk P w K mg base CX0 4 fDLa dDLa ["_law_one", "_law_other"] (spAdd K addP) := ok_ladded DLa.F B DLp DOf DLw DSh
  have OLm := ok_lmul (P := P) (w := w) (base := base) DLm.F B C X9 D G X DT DS DL DC DMu DRf DLs DLt DOf DLw DSh DIs DW
  obtain ⟨tN, hN, r8⟩ := law_8 (P := P) (w := w) (base := base) (outer := outer) (H0 := H0) (E := E) hr B C X9 D G X DT DS DL DC DMu DRf DLs DLt DOf DLw DSh DIs DW DCa DSu DMx DPt DNm DAl DSi DAd DP DQ DLa DLp DLm DLW DWo
  have nd := sc_law.nd
  have hr2 : Room 2 _ := hr.mono (by decide)
  have hr4 : Room 4 _ := hr.mono (by decide)
  have hr5 : Room 5 _ := hr.mono (by decide)
  refine ⟨_, pss_cons (ps_for PassesOwn.never rfl (pi_list (pe_lst (pa_Tuple (pe_tup (pa_Name (pv 1 rfl (Or.inl lk_law__law_one)) (pa_Name (pv 2 rfl (Or.inl lk_law__law_other)) pa_nil))) (pa_Tuple (pe_tup (pa_Name (pv 2 rfl (Or.inl lk_law__law_other)) (pa_Name (pv 1 rfl (Or.inl lk_law__law_one)) pa_nil))) (pa_Tuple (pe_tup (pa_Name (pv 1 rfl (Or.inl lk_law__law_one)) (pa_Name (pv 1 rfl (Or.inl lk_law__law_one)) pa_nil))) (pa_Tuple (pe_tup (pa_Name (pv 2 rfl (Or.inl lk_law__law_other)) (pa_Tuple (pe_tup (pa_Name (pv 4 rfl (Or.inl lk_law__law_part_here)) (pa_Tuple (pe_tup pa_nil) pa_nil))) pa_nil))) (pa_Tuple (pe_tup (pa_Tuple (pe_tup (pa_Name (pv 4 rfl (Or.inl lk_law__law_part_here)) (pa_Tuple (pe_tup pa_nil) pa_nil))) (pa_Name (pv 1 rfl (Or.inl lk_law__law_one)) pa_nil))) pa_nil))))))) (pg_tup rfl (pgs_cons (pg_name (i := 6) nd rfl (Or.inl lk_law__law_first)) (pgs_cons (pg_name (i := 7) nd rfl (Or.inl lk_law__law_second)) (pgs_nil)))) (pss_one (ps_if (PW.pt (pw_or (pt_not (pt_val (pe_call OIs hr2 lk_law__law_is DIs.m DIs.F.kp DIs.b .nil pass0 (pa_Call (pe_call OAd hr5 lk_law_added DAd.m DAd.F.kp DAd.b .nil pass0 (pa_Name (pv 6 rfl (Or.inl lk_law__law_first)) (pa_Name (pv 7 rfl (Or.inl lk_law__law_second)) pa_nil))) (pa_Call (pe_call OLa hr4 lk_law__law_added DLa.m DLa.F.kp DLa.b .nil pass0 (pa_Name (pv 6 rfl (Or.inl lk_law__law_first)) (pa_Name (pv 7 rfl (Or.inl lk_law__law_second)) pa_nil))) pa_nil))))) (pw_or1 (pt_not (pt_val (pe_call OLm hr lk_law__law_multiplied DLm.m DLm.F.kp DLm.b .nil pass0 (pa_Name (pv 6 rfl (Or.inl lk_law__law_first)) (pa_Name (pv 7 rfl (Or.inl lk_law__law_second)) pa_nil)))))))) (pss_one (ps_ret (pe_bl))) (pss_nil))))
    (hN), ?_⟩
  intro Q a ns r1 r pv S T ap c num Hf k kn
  -- the five pairs
  refine ⟨_, rfl, _, rfl, (by show 2 ≤ sizeLine; decide), fun pa ha => ?_⟩
  have sa : Same Hf (upd Hf pa (.tup [r1, r])) := same_new ha _
  have ea : upd Hf pa (.tup [r1, r]) pa = some (.tup [r1, r]) := upd_same
  generalize upd Hf pa (.tup [r1, r]) = Ha at sa ea ⊢
  refine ⟨_, rfl, _, rfl, (by show 2 ≤ sizeLine; decide), fun pb hb => ?_⟩
  have sb : Same Ha (upd Ha pb (.tup [r, r1])) := same_new hb _
  have eb : upd Ha pb (.tup [r, r1]) pb = some (.tup [r, r1]) := upd_same
  generalize upd Ha pb (.tup [r, r1]) = Hb at sb eb ⊢
  refine ⟨_, rfl, _, rfl, (by show 2 ≤ sizeLine; decide), fun pc hc => ?_⟩
  have sc : Same Hb (upd Hb pc (.tup [r1, r1])) := same_new hc _
  have ec : upd Hb pc (.tup [r1, r1]) pc = some (.tup [r1, r1]) := upd_same
  generalize upd Hb pc (.tup [r1, r1]) = Hc at sc ec ⊢
  refine ⟨_, rfl, _, rfl, Nat.zero_le _, fun pd hd => ?_⟩
  have sd : Same Hc (upd Hc pd (.tup [])) := same_new hd _
  have ed : upd Hc pd (.tup []) pd = some (.tup []) := upd_same
  generalize upd Hc pd (.tup []) = Hd at sd ed ⊢
  refine ⟨(by show 2 ≤ sizeLine; decide), fun pe he => ?_⟩
  have se : Same Hd (upd Hd pe (.tup [pv, .ref pd])) := same_new he _
  have ee : upd Hd pe (.tup [pv, .ref pd]) pe = some (.tup [pv, .ref pd]) := upd_same
  generalize upd Hd pe (.tup [pv, .ref pd]) = He at se ee ⊢
  refine ⟨(by show 2 ≤ sizeLine; decide), fun pf hf => ?_⟩
  have sf : Same He (upd He pf (.tup [r, .ref pe])) := same_new hf _
  have ef : upd He pf (.tup [r, .ref pe]) pf = some (.tup [r, .ref pe]) := upd_same
  generalize upd He pf (.tup [r, .ref pe]) = Hf1 at sf ef ⊢
  refine ⟨_, rfl, Nat.zero_le _, fun pg hg => ?_⟩
  have sg : Same Hf1 (upd Hf1 pg (.tup [])) := same_new hg _
  have eg : upd Hf1 pg (.tup []) pg = some (.tup []) := upd_same
  generalize upd Hf1 pg (.tup []) = Hg at sg eg ⊢
  refine ⟨(by show 2 ≤ sizeLine; decide), fun ph hh => ?_⟩
  have sh : Same Hg (upd Hg ph (.tup [pv, .ref pg])) := same_new hh _
  have eh : upd Hg ph (.tup [pv, .ref pg]) ph = some (.tup [pv, .ref pg]) := upd_same
  generalize upd Hg ph (.tup [pv, .ref pg]) = Hh at sh eh ⊢
  refine ⟨_, rfl, (by show 2 ≤ sizeLine; decide), fun pi hi => ?_⟩
  have si : Same Hh (upd Hh pi (.tup [.ref ph, r1])) := same_new hi _
  have ei : upd Hh pi (.tup [.ref ph, r1]) pi = some (.tup [.ref ph, r1]) := upd_same
  generalize upd Hh pi (.tup [.ref ph, r1]) = Hi at si ei ⊢
  refine ⟨(by show 5 ≤ sizeLine; decide), fun pj hj => ?_⟩
  have sj : Same Hi (upd Hi pj (.lst [.ref pa, .ref pb, .ref pc, .ref pf, .ref pi])) := same_new hj _
  have ej : upd Hi pj (.lst [.ref pa, .ref pb, .ref pc, .ref pf, .ref pi]) pj = some (.lst [.ref pa, .ref pb, .ref pc, .ref pf, .ref pi]) := upd_same
  generalize upd Hi pj (.lst [.ref pa, .ref pb, .ref pc, .ref pf, .ref pi]) = Hj at sj ej ⊢
  have cj : Same Hj Hj := Same.refl'
  have ki : Same Hi Hj := sj.trans cj
  have kh : Same Hh Hj := si.trans ki
  have kg : Same Hg Hj := sh.trans kh
  have kf : Same Hf1 Hj := sg.trans kg
  have ke : Same He Hj := sf.trans kf
  have kd : Same Hd Hj := se.trans ke
  have kc : Same Hc Hj := sd.trans kd
  have kb : Same Hb Hj := sc.trans kc
  have ka : Same Ha Hj := sb.trans kb
  have k0 : Same Hf Hj := sa.trans ka
  have ka' : Same Ha Hj := ka
  have kb' : Same Hb Hj := kb
  have kc' : Same Hc Hj := kc
  have kd' : Same Hd Hj := kd
  have ke' : Same He Hj := ke
  have kf' : Same Hf1 Hj := kf
  have kg' : Same Hg Hj := kg
  have kh' : Same Hh Hj := kh
  have ki' : Same Hi Hj := ki
  have five : ∀ x ∈ ([.ref pa, .ref pb, .ref pc, .ref pf, .ref pi] : List V), TwoS K Hj x := by
    have mE : Sm K Hj (.ref pe) (ap, []) := ⟨pe, _, _, rfl, ke' _ _ ee, kn.fp.same k0, pd, [], rfl, kd' _ _ ed, .nil⟩
    have mH : Sm K Hj (.ref ph) (ap, []) := ⟨ph, _, _, rfl, kh' _ _ eh, kn.fp.same k0, pg, [], rfl, kg' _ _ eg, .nil⟩
    have m1j := kn.m1.same k0
    have mTj := kn.mT.same k0
    refine List.forall_mem_cons.mpr ⟨⟨pa, _, _, S, T, rfl, SqT.of (ka' _ _ ea), m1j, mTj, kn.w1, kn.wT⟩, List.forall_mem_cons.mpr ⟨⟨pb, _, _, T, S, rfl, SqT.of (kb' _ _ eb), mTj, m1j, kn.wT, kn.w1⟩, List.forall_mem_cons.mpr ⟨⟨pc, _, _, S, S, rfl, SqT.of (kc' _ _ ec), m1j, m1j, kn.w1, kn.w1⟩,
      List.forall_mem_cons.mpr ⟨⟨pf, _, _, T, (ap, []), rfl, SqT.of (kf' _ _ ef), mTj, mE, kn.wT, wf_plain kn.gp⟩, List.forall_mem_cons.mpr ⟨⟨pi, _, _, (ap, []), S, rfl, SqT.of (ki' _ _ ei), mH, m1j, wf_plain kn.gp, kn.w1⟩, List.forall_mem_nil _⟩⟩⟩⟩⟩

  refine ⟨pj, rfl, ⟨_, SqL.of ej⟩, ?_⟩
  refine for_list (xs := [.ref pa, .ref pb, .ref pc, .ref pf, .ref pi]) (fun i σ H' => ∃ x y : Option V, σ = [some (.ref a), some r1, some r, some (.int c), some pv, some (.int num), x, y, none, none, none, none] ∧ Same Hj H') ⟨none, none, rfl, Same.refl'⟩ (fun i σ H' _ h => ?_) (fun i x σ H' hx h => ?_) (fun σ H' h => ?_)
  · obtain ⟨_, _, _, sm⟩ := h
    exact SqL.of (sm _ _ ej)
  · obtain ⟨x1, y1, rfl, sm⟩ := h
    obtain ⟨q, u, v, S', T', rfl, sq, mu, mv, wu, wv⟩ := (five x (List.mem_of_getElem? hx)).same sm
    refine ⟨q, _, rfl, sq, rfl, _, _, rfl, _, _, rfl, rfl, ?_⟩
    refine ⟨_, rfl, _, rfl, u, v, S', T', rfl, mu, mv, wu, wv, fun rA' HA' sA' mA' => ?_⟩
    refine ⟨_, rfl, _, rfl, u, v, S', T', rfl, mu.same sA', mv.same sA', wu, wv, fun rB' HB' sB' mB' => ?_⟩
    refine ⟨rA', rB', addP S' T', rfl, mA'.same sB', mB', add_len wu wv, fun HC' sC' => ⟨true, rfl, iteN rfl ?_⟩⟩
    have sx := sA'.trans (sB'.trans sC')
    refine ⟨_, rfl, _, rfl, u, v, S', T', rfl, mu.same sx, mv.same sx, wu, wv, fun HD' sD' => ⟨true, rfl, iteN rfl ?_⟩⟩
    exact ⟨_, _, rfl, sm.trans (sx.trans sD')⟩
  obtain ⟨x1, y1, rfl, sK⟩ := h
  exact r8 Q a ns r1 r pv S T ap c num x1 y1 H' k (kn.same (k0.trans sK))
theorem law_6 {cdv : Value} {A : Around} {outer : List Env} {s : Shared} {H0 : Hp} {E : XK} {ff fg CB aN aO : Addr} {df dg : FuncData} {dV : Value} {ds : List Value} {CN CP C1 C2 C3 C4 C5 C6 C7 : Addr} {fDT fDS fDL fDC fDMu fDRf fDLs fDLt fDOf fDLw fDSh fDIs fDW fDCa fDSu fDMx fDPt fDNm fDAl fDSi fDAd fDP fDQ fDLa fDLp fDLm fDLW fDWo : Addr} {dDT dDS dDL dDC dDMu dDRf dDLs dDLt dDOf dDLw dDSh dDIs dDW dDCa dDSu dDMx dDPt dDNm dDAl dDSi dDAd dDP dDQ dDLa dDLp dDLm dDLW dDWo : FuncData} (hr : Room 8 (A.deeper (PyProof.Rows.envOfC "law" (defScope s_law) s.heap.objs.size f cdv))) (B : Blt mg) (C : Cst K mg aN aO) (X9 : Errs K mg CN CP C1 C2 C3 C4 C5 C6 C7) (D : DefD K mg "fraction" s_fraction dV ff df ["top", "bottom"] ds) (G : DefAt K mg "greatest_divisor" s_greatest_divisor fg dg ["one", "other"]) (X : BadF K mg CB) (DT : DefAt K mg "times" s_times fDT dDT ["one", "other"]) (DS : DefAt K mg "sign" s_sign fDS dDS ["one"]) (DL : DefAt K mg "plain" s_plain fDL dDL ["one"]) (DC : DefAt K mg "scaled" s_scaled fDC dDC ["one", "part"]) (DMu : DefAt K mg "multiplied" s_multiplied fDMu dDMu ["one", "other"]) (DRf : DefAt K mg "_law_refused" s_refused fDRf dDRf ["_law_one", "_law_other"]) (DLs : DefAt K mg "_law_scaled" s_lscaled fDLs dDLs ["_law_one", "_law_part_here"]) (DLt : DefAt K mg "_law_times" s_ltimes fDLt dDLt ["_law_one", "_law_other"]) (DOf : DefAt K mg "_law_of" s_of fDOf dDOf ["_law_constant", "_law_parts"]) (DLw : DefAt K mg "_law_low" s_low fDLw dDLw ["_law_top", "_law_bottom"]) (DSh : DefAt K mg "_law_shared" s_shared fDSh dDSh ["_law_one", "_law_other"]) (DIs : DefAt K mg "_law_is" s_is fDIs dDIs ["_law_found", "_law_due"]) (DW : DefAt K mg "_law_whole" s_whole fDW dDW ["_law_found"]) (DCa : DefAt K mg "_law_cell_at" s_cell_at fDCa dDCa ["_law_script", "_law_k"]) (DSu : DefAt K mg "_law_sum" s_sum fDSu dDSu ["_law_cell", "_law_more"]) (DMx : DefAt K mg "_law_mixed" s_mixed fDMx dDMx ["_law_cell", "_law_k"]) (DPt : DefAt K mg "_law_part" s_part fDPt dDPt ["_law_cell"]) (DNm : DefAt K mg "_law_number" s_number fDNm dDNm ["_law_cell", "_law_k"]) (DAl : DefAt K mg "_law_alike" s_alike fDAl dDAl ["_law_one", "_law_other", "_law_cell"]) (DSi : DefAt K mg "single" s_single fDSi dDSi ["number"]) (DAd : DefAt K mg "added" s_added fDAd dDAd ["one", "other"]) (DP : DefAt K mg "plus" s_plus fDP dDP ["one", "other"]) (DQ : DefAt K mg "pairs_of" s_pairs_of fDQ dDQ ["parts"]) (DLa : DefAt K mg "_law_added" s_ladded fDLa dDLa ["_law_one", "_law_other"]) (DLp : DefAt K mg "_law_plus" s_lplus fDLp dDLp ["_law_one", "_law_other"]) (DLm : DefAt K mg "_law_multiplied" s_lmul fDLm dDLm ["_law_one", "_law_other"]) (DLW : DefAt K mg "_law_worth" s_lworth fDLW dDLW ["_law_one", "_law_values", "_law_is_list"]) (DWo : DefAt K mg "worth" s_worth fDWo dDWo ["one", "values"]) : ∃ t, PSs (cxOf CX0 P w K mg base NL "law" (defScope s_law) f cdv A outer s H0 E).nox ((defBody s_law).drop 6) t ∧ ∀ (Q : VK) (a : Addr) (ns : List Int) (r1 r pv : V) (S T : Su) (ap : Fq) (c num : Int) (H6 : Hp), (∀ H', Q (.bl true) H') → Kn K H6 a ns r1 r pv S T ap → t { nx := fun _ H' => Q .non H', rt := Q } [some (.ref a), some r1, some r, some (.int c), some pv, some (.int num), none, none, none, none, none, none] H6 := by
  have OL : FnOk P w K mg base CX0 1 fDL dDL ["one"] (spPlain K) := ok_plain DL.F
  have OSi : FnOk P w K mg base CX0 1 fDSi dDSi ["number"] (spSingle K) := ok_single DSi.F C
  have OIs : FnOk P w K mg base CX0 2 fDIs dDIs ["_law_found", "_law_due"] (spIs K) := ok_is DIs.F B DW
  obtain ⟨tN, hN, r7⟩ := law_7 (P := P) (w := w) (base := base) (outer := outer) (H0 := H0) (E := E) hr B C X9 D G X DT DS DL DC DMu DRf DLs DLt DOf DLw DSh DIs DW DCa DSu DMx DPt DNm DAl DSi DAd DP DQ DLa DLp DLm DLW DWo
  have nd := sc_law.nd
  have hr1 : Room 1 _ := hr.mono (by decide)
  have hr2 : Room 2 _ := hr.mono (by decide)
  refine ⟨_, pss_cons (ps_if (PW.pt (pw_or (pt_not (pt_val (pe_call OIs hr2 lk_law__law_is DIs.m DIs.F.kp DIs.b .nil pass0 (pa_Call (pe_call OL hr1 lk_law_plain DL.m DL.F.kp DL.b .nil pass0 (pa_Name (pv 4 rfl (Or.inl lk_law__law_part_here)) pa_nil)) (pa_Tuple (pe_tup (pa_Name (pv 4 rfl (Or.inl lk_law__law_part_here)) (pa_Tuple (pe_tup pa_nil) pa_nil))) pa_nil))))) (pw_or1 (pt_not (pt_val (pe_call OIs hr2 lk_law__law_is DIs.m DIs.F.kp DIs.b .nil pass0 (pa_Call (pe_call OSi hr1 lk_law_single DSi.m DSi.F.kp DSi.b .nil pass0 (pa_Name (pv 5 rfl (Or.inl lk_law__law_number_here)) pa_nil)) (pa_Tuple (pe_tup (pa_Tuple (pe_tup (pa_Constant (pe_int) (pa_Constant (pe_int) pa_nil))) (pa_Tuple (pe_tup (pa_Tuple (pe_tup (pa_Name (pv 5 rfl (Or.inl lk_law__law_number_here)) (pa_Tuple (pe_tup (pa_Constant (pe_int) (pa_Constant (pe_int) pa_nil))) pa_nil))) pa_nil)) pa_nil))) pa_nil)))))))) (pss_one (ps_ret (pe_bl))) (pss_nil))
    (hN), ?_⟩
  intro Q a ns r1 r pv S T ap c num H6 k kn
  -- plain and single
  refine ⟨_, rfl, pv, ap, rfl, kn.fp, fun rA HA sA mA => ?_⟩
  refine ⟨_, rfl, Nat.zero_le _, fun t0 h0 => ⟨(by show 2 ≤ sizeLine; decide), fun t1 h1 => ?_⟩⟩
  have sB : Same HA (upd HA t0 (.tup [])) := same_new h0 _
  have eB : upd HA t0 (.tup []) t0 = some (.tup []) := upd_same
  generalize upd HA t0 (.tup []) = HB at sB eB h1 ⊢
  have sC : Same HB (upd HB t1 (.tup [pv, .ref t0])) := same_new h1 _
  have eC : upd HB t1 (.tup [pv, .ref t0]) t1 = some (.tup [pv, .ref t0]) := upd_same
  generalize upd HB t1 (.tup [pv, .ref t0]) = HC at sC eC ⊢
  have sAC := sA.trans (sB.trans sC)
  refine ⟨rA, .ref t1, (ap, []), rfl, mA.same (sB.trans sC), ⟨t1, _, _, rfl, eC, kn.fp.same sAC, t0, [], rfl, sC _ _ eB, .nil⟩, Nat.zero_le _, fun HD sD => ⟨true, rfl, iteN rfl ?_⟩⟩
  refine ⟨_, rfl, num, rfl, fun rS HS sS mS => ?_⟩
  refine ⟨(by show 2 ≤ sizeLine; decide), fun q1 k1 => ?_⟩
  have sq1 : Same HS (upd HS q1 (.tup [.int 0, .int 1])) := same_new k1 _
  have eq1 : upd HS q1 (.tup [.int 0, .int 1]) q1 = some (.tup [.int 0, .int 1]) := upd_same
  generalize upd HS q1 (.tup [.int 0, .int 1]) = HQ1 at sq1 eq1 ⊢
  refine ⟨_, rfl, (by show 2 ≤ sizeLine; decide), fun q2 k2 => ?_⟩
  have sq2 : Same HQ1 (upd HQ1 q2 (.tup [.int 1, .int 1])) := same_new k2 _
  have eq2 : upd HQ1 q2 (.tup [.int 1, .int 1]) q2 = some (.tup [.int 1, .int 1]) := upd_same
  generalize upd HQ1 q2 (.tup [.int 1, .int 1]) = HQ2 at sq2 eq2 ⊢
  refine ⟨(by show 2 ≤ sizeLine; decide), fun q3 k3 => ?_⟩
  have sq3 : Same HQ2 (upd HQ2 q3 (.tup [.int num, .ref q2])) := same_new k3 _
  have eq3 : upd HQ2 q3 (.tup [.int num, .ref q2]) q3 = some (.tup [.int num, .ref q2]) := upd_same
  generalize upd HQ2 q3 (.tup [.int num, .ref q2]) = HQ3 at sq3 eq3 ⊢
  refine ⟨(by show 1 ≤ sizeLine; decide), fun q4 k4 => ?_⟩
  have sq4 : Same HQ3 (upd HQ3 q4 (.tup [.ref q3])) := same_new k4 _
  have eq4 : upd HQ3 q4 (.tup [.ref q3]) q4 = some (.tup [.ref q3]) := upd_same
  generalize upd HQ3 q4 (.tup [.ref q3]) = HQ4 at sq4 eq4 ⊢
  refine ⟨(by show 2 ≤ sizeLine; decide), fun q5 k5 => ?_⟩
  have sq5 : Same HQ4 (upd HQ4 q5 (.tup [.ref q1, .ref q4])) := same_new k5 _
  have eq5 : upd HQ4 q5 (.tup [.ref q1, .ref q4]) q5 = some (.tup [.ref q1, .ref q4]) := upd_same
  generalize upd HQ4 q5 (.tup [.ref q1, .ref q4]) = HQ5 at sq5 eq5 ⊢
  have t45 := sq4.trans sq5
  have t35 := sq3.trans t45
  have t25 := sq2.trans t35
  have t15 := sq1.trans t25
  refine ⟨rS, .ref q5, ((0, 1), [(num, (1, 1))]), rfl, mS.same t15, ⟨q5, _, _, rfl, eq5, ⟨q1, rfl, SqT.of (t25 _ _ eq1)⟩, q4, _, rfl, sq5 _ _ eq4, .cons ⟨q3, _, rfl, SqT.of (t45 _ _ eq3), q2, rfl, SqT.of (t35 _ _ eq2)⟩ .nil⟩, by show 1 ≤ 100; decide, fun Hf sF => ⟨true, rfl, iteN rfl ?_⟩⟩
  exact r7 Q a ns r1 r pv S T ap c num Hf k (kn.same (sAC.trans (sD.trans (sS.trans (t15.trans sF)))))
theorem ok_law {ff fg CB aN aO : Addr} {df dg : FuncData} {dV : Value} {ds : List Value} {CN CP C1 C2 C3 C4 C5 C6 C7 : Addr} {fDT fDS fDL fDC fDMu fDRf fDLs fDLt fDOf fDLw fDSh fDIs fDW fDCa fDSu fDMx fDPt fDNm fDAl fDSi fDAd fDP fDQ fDLa fDLp fDLm fDLW fDWo : Addr} {dDT dDS dDL dDC dDMu dDRf dDLs dDLt dDOf dDLw dDSh dDIs dDW dDCa dDSu dDMx dDPt dDNm dDAl dDSi dDAd dDP dDQ dDLa dDLp dDLm dDLW dDWo : FuncData} (F : Fun K "law" "law" s_law f fd) (B : Blt mg) (C : Cst K mg aN aO) (X9 : Errs K mg CN CP C1 C2 C3 C4 C5 C6 C7) (D : DefD K mg "fraction" s_fraction dV ff df ["top", "bottom"] ds) (G : DefAt K mg "greatest_divisor" s_greatest_divisor fg dg ["one", "other"]) (X : BadF K mg CB) (DT : DefAt K mg "times" s_times fDT dDT ["one", "other"]) (DS : DefAt K mg "sign" s_sign fDS dDS ["one"]) (DL : DefAt K mg "plain" s_plain fDL dDL ["one"]) (DC : DefAt K mg "scaled" s_scaled fDC dDC ["one", "part"]) (DMu : DefAt K mg "multiplied" s_multiplied fDMu dDMu ["one", "other"]) (DRf : DefAt K mg "_law_refused" s_refused fDRf dDRf ["_law_one", "_law_other"]) (DLs : DefAt K mg "_law_scaled" s_lscaled fDLs dDLs ["_law_one", "_law_part_here"]) (DLt : DefAt K mg "_law_times" s_ltimes fDLt dDLt ["_law_one", "_law_other"]) (DOf : DefAt K mg "_law_of" s_of fDOf dDOf ["_law_constant", "_law_parts"]) (DLw : DefAt K mg "_law_low" s_low fDLw dDLw ["_law_top", "_law_bottom"]) (DSh : DefAt K mg "_law_shared" s_shared fDSh dDSh ["_law_one", "_law_other"]) (DIs : DefAt K mg "_law_is" s_is fDIs dDIs ["_law_found", "_law_due"]) (DW : DefAt K mg "_law_whole" s_whole fDW dDW ["_law_found"]) (DCa : DefAt K mg "_law_cell_at" s_cell_at fDCa dDCa ["_law_script", "_law_k"]) (DSu : DefAt K mg "_law_sum" s_sum fDSu dDSu ["_law_cell", "_law_more"]) (DMx : DefAt K mg "_law_mixed" s_mixed fDMx dDMx ["_law_cell", "_law_k"]) (DPt : DefAt K mg "_law_part" s_part fDPt dDPt ["_law_cell"]) (DNm : DefAt K mg "_law_number" s_number fDNm dDNm ["_law_cell", "_law_k"]) (DAl : DefAt K mg "_law_alike" s_alike fDAl dDAl ["_law_one", "_law_other", "_law_cell"]) (DSi : DefAt K mg "single" s_single fDSi dDSi ["number"]) (DAd : DefAt K mg "added" s_added fDAd dDAd ["one", "other"]) (DP : DefAt K mg "plus" s_plus fDP dDP ["one", "other"]) (DQ : DefAt K mg "pairs_of" s_pairs_of fDQ dDQ ["parts"]) (DLa : DefAt K mg "_law_added" s_ladded fDLa dDLa ["_law_one", "_law_other"]) (DLp : DefAt K mg "_law_plus" s_lplus fDLp dDLp ["_law_one", "_law_other"]) (DLm : DefAt K mg "_law_multiplied" s_lmul fDLm dDLm ["_law_one", "_law_other"]) (DLW : DefAt K mg "_law_worth" s_lworth fDLW dDLW ["_law_one", "_law_values", "_law_is_list"]) (DWo : DefAt K mg "worth" s_worth fDWo dDWo ["one", "values"]) : FnOk P w K mg base CX0 9 f fd ["_law_script"] (spLaw K) := by
  have OSu : FnOk P w K mg base CX0 4 fDSu dDSu ["_law_cell", "_law_more"] (spSum K) := ok_sum DSu.F B DMx DPt DLw DSh DNm
  have OCa : FnOk P w K mg base CX0 1 fDCa dDCa ["_law_script", "_law_k"] (spCell K) := ok_cell_at DCa.F B
  have OAl : FnOk P w K mg base CX0 2 fDAl dDAl ["_law_one", "_law_other", "_law_cell"] (spAlike K) := ok_alike DAl.F B DMx
  have OPt : FnOk P w K mg base CX0 3 fDPt dDPt ["_law_cell"] (spPart K) := ok_part DPt.F B DLw DSh DNm DMx
  refine F.ok sc_law (fun vs H Q E h => ?_) (fun cdv A outer s H vs Q E hr h => ?_)
  · obtain ⟨_, _, rfl, _⟩ := h
    rfl
  obtain ⟨a, ns, rfl, hS, h63, k⟩ := h
  obtain ⟨tN, hN, r6⟩ := law_6 (P := P) (w := w) (base := base) (outer := outer) (H0 := H) (E := E) hr B C X9 D G X DT DS DL DC DMu DRf DLs DLt DOf DLw DSh DIs DW DCa DSu DMx DPt DNm DAl DSi DAd DP DQ DLa DLp DLm DLW DWo
  have nd := sc_law.nd
  have hr1 : Room 1 _ := hr.mono (by decide)
  have hr2 : Room 2 _ := hr.mono (by decide)
  have hr3 : Room 3 _ := hr.mono (by decide)
  have hr4 : Room 4 _ := hr.mono (by decide)
  refine ⟨_, pss_cons (ps_set (i := 1) nd rfl (Or.inl lk_law__law_one) (pe_call OSu hr4 lk_law__law_sum DSu.m DSu.F.kp DSu.b .nil pass0 (pa_Call (pe_call OCa hr1 lk_law__law_cell_at DCa.m DCa.F.kp DCa.b .nil pass0 (pa_Name (pv 0 rfl (Or.inr (Or.inl lk_law__law_script))) (pa_Constant (pe_int) pa_nil))) (pa_Call (pe_call OCa hr1 lk_law__law_cell_at DCa.m DCa.F.kp DCa.b .nil pass0 (pa_Name (pv 0 rfl (Or.inr (Or.inl lk_law__law_script))) (pa_Constant (pe_int) pa_nil))) pa_nil))))
    (pss_cons (ps_set (i := 2) nd rfl (Or.inl lk_law__law_other) (pe_call OSu hr4 lk_law__law_sum DSu.m DSu.F.kp DSu.b .nil pass0 (pa_Call (pe_call OCa hr1 lk_law__law_cell_at DCa.m DCa.F.kp DCa.b .nil pass0 (pa_Name (pv 0 rfl (Or.inr (Or.inl lk_law__law_script))) (pa_Constant (pe_int) pa_nil))) (pa_Call (pe_call OCa hr1 lk_law__law_cell_at DCa.m DCa.F.kp DCa.b .nil pass0 (pa_Name (pv 0 rfl (Or.inr (Or.inl lk_law__law_script))) (pa_Constant (pe_int) pa_nil))) pa_nil))))
    (pss_cons (ps_set (i := 3) nd rfl (Or.inl lk_law__law_cell) (pe_call OCa hr1 lk_law__law_cell_at DCa.m DCa.F.kp DCa.b .nil pass0 (pa_Name (pv 0 rfl (Or.inr (Or.inl lk_law__law_script))) (pa_Constant (pe_int) pa_nil))))
    (pss_cons (ps_if (pt_cmpR op_eq (pe_op op_mod (pv 3 rfl (Or.inl lk_law__law_cell)) (pe_int)) (pe_int) (nomark _)) (pss_one (ps_set (i := 2) nd rfl (Or.inl lk_law__law_other) (pe_call OAl hr2 lk_law__law_alike DAl.m DAl.F.kp DAl.b .nil pass0 (pa_Name (pv 1 rfl (Or.inl lk_law__law_one)) (pa_Name (pv 2 rfl (Or.inl lk_law__law_other)) (pa_BinOp (pe_op op_fdiv (pv 3 rfl (Or.inl lk_law__law_cell)) (pe_int)) pa_nil)))))) (pss_nil))
    (pss_cons (ps_set (i := 4) nd rfl (Or.inl lk_law__law_part_here) (pe_ix ix_list (pe_lst (pa_Call (pe_call OPt hr3 lk_law__law_part DPt.m DPt.F.kp DPt.b .nil pass0 (pa_Call (pe_call OCa hr1 lk_law__law_cell_at DCa.m DCa.F.kp DCa.b .nil pass0 (pa_Name (pv 0 rfl (Or.inr (Or.inl lk_law__law_script))) (pa_Constant (pe_int) pa_nil))) pa_nil)) (pa_Tuple (pe_tup (pa_Constant (pe_int) (pa_Constant (pe_int) pa_nil))) pa_nil))) (pe_callTy call_int1 lk_law_int B.int bt_int (pa_Compare (pe_cmpR op_eq (pe_op op_mod (pe_call OCa hr1 lk_law__law_cell_at DCa.m DCa.F.kp DCa.b .nil pass0 (pa_Name (pv 0 rfl (Or.inr (Or.inl lk_law__law_script))) (pa_Constant (pe_int) pa_nil))) (pe_int)) (pe_int) (nomark _)) pa_nil)) (fun _ _ => rfl)))
    (pss_cons (ps_set (i := 5) nd rfl (Or.inl lk_law__law_number_here) (pe_op op_mod (pe_call OCa hr1 lk_law__law_cell_at DCa.m DCa.F.kp DCa.b .nil pass0 (pa_Name (pv 0 rfl (Or.inr (Or.inl lk_law__law_script))) (pa_Constant (pe_int) pa_nil))) (pe_int)))
    (hN)))))), ?_⟩
  refine ⟨_, rfl, a, ns, 0, rfl, hS, by decide, fun n0 => ⟨_, rfl, a, ns, 1, rfl, hS, by decide, fun n1 => ⟨n0, n1, rfl, fun r1 S H1 s1 m1 w1 l1 => ?_⟩⟩⟩
  refine ⟨_, rfl, a, ns, 2, rfl, s1.seq hS, by decide, fun n2 => ⟨_, rfl, a, ns, 3, rfl, s1.seq hS, by decide, fun n3 => ⟨n2, n3, rfl, fun r2 T0 H2 s2 m2 w2 l2 => ?_⟩⟩⟩
  have s12 := s1.trans s2
  refine ⟨_, rfl, a, ns, 4, rfl, s12.seq hS, by decide, fun c => ?_⟩
  dsimp only [tSeq]
  refine ifS_join (fun σ' H' => ∃ (r : V) (T : Su), σ' = [some (.ref a), some r1, some r, some (.int c), none, none, none, none, none, none, none, none] ∧ Same H2 H' ∧ Sm K H' r T ∧ Wf T)
    (fun R hR => ⟨_, rfl, c, _, rfl, rfl, (by show (0 : Int) < 2; decide), rfl, _, rfl, hR _ Same.refl'⟩)
    (fun H' s' Dn hDn => ⟨_, rfl, _, rfl, _, rfl, c, _, rfl, rfl, ⟨by decide, by decide⟩, r1, r2, S, T0, c / 2, rfl, (m1.same s2).same s', m2.same s', w1, w2, l1, l2, fun r T H4 s4 m4 w4 => hDn _ _ ⟨r, T, rfl, s'.trans s4, m4, w4⟩⟩)
    (fun H' s' Dn hDn => hDn _ _ ⟨r2, T0, rfl, s', m2.same s', w2⟩) ?_
  rintro σ' H3 ⟨r, T, rfl, s3, mT, wT⟩
  have s13 := s12.trans s3
  -- the part
  refine ⟨_, rfl, a, ns, 5, rfl, s13.seq hS, by decide, fun n5 => ⟨n5, rfl, fun rp pa0 H4 s4 f4 g4 => ?_⟩⟩
  refine ⟨(by show 2 ≤ sizeLine; decide), fun tp htp => ?_⟩
  have s5 : Same H4 (upd H4 tp (.tup [.int 0, .int 1])) := same_new htp _
  have e5 : upd H4 tp (.tup [.int 0, .int 1]) tp = some (.tup [.int 0, .int 1]) := upd_same
  generalize upd H4 tp (.tup [.int 0, .int 1]) = H5 at s5 e5 ⊢
  refine ⟨(by show 2 ≤ sizeLine; decide), fun lp hlp => ?_⟩
  have s6 : Same H5 (upd H5 lp (.lst [rp, .ref tp])) := same_new hlp _
  have e6 : upd H5 lp (.lst [rp, .ref tp]) lp = some (.lst [rp, .ref tp]) := upd_same
  generalize upd H5 lp (.lst [rp, .ref tp]) = H6 at s6 e6 ⊢
  have s46 := s4.trans (s5.trans s6)
  have s16 := s13.trans s46
  refine ⟨_, rfl, a, ns, 5, rfl, s16.seq hS, by decide, fun n5' => ⟨_, _, rfl, rfl, (by show (0 : Int) < 4; decide), rfl, ?_⟩⟩
  have fp6 : IsF K H6 rp pa0 := (f4.same s5).same s6
  have ft6 : IsF K H6 (.ref tp) (0, 1) := ⟨tp, rfl, SqT.of (s6 _ _ e5)⟩
  have pick : ∀ b : Bool, ∃ (v : V) (x : Fq), atI ([rp, .ref tp] : List V) (if b = true then 1 else 0) = some v ∧ IsF K H6 v x ∧ Gd 101 x := fun b => by
    cases b with
    | false => exact ⟨rp, pa0, rfl, fp6, g4⟩
    | true => exact ⟨.ref tp, (0, 1), rfl, ft6, gd_one (by decide)⟩
  obtain ⟨pv, ap, evp, fpv, gpv⟩ := pick (decide ((V.int (n5' % 4)) = V.int 1))
  refine .inr ⟨_, rfl, lp, _, _, _, rfl, rfl, SqL.of e6, evp, ?_⟩
  refine ⟨_, rfl, a, ns, 6, rfl, s16.seq hS, by decide, fun n6 => ⟨_, _, rfl, rfl, (by show (0 : Int) < 60; decide), ?_⟩⟩
  have b0 := Int.emod_nonneg n6 (show (60 : Int) ≠ 0 by decide)
  have b1 := Int.emod_lt_of_pos n6 (show (0 : Int) < 60 by decide)
  dsimp only
  obtain ⟨num, hnum⟩ : ∃ z, n6 % 60 = z := ⟨_, rfl⟩
  rw [hnum] at b0 b1 ⊢
  exact r6 Q a ns r1 r pv S T ap c num H6 k ⟨s16.seq hS, m1.same (s2.trans (s3.trans s46)), mT.same s46, w1, wT, fpv, gpv⟩
end
end Pw


set_option Elab.async false
set_option linter.all false
set_option maxRecDepth 100000
set_option maxHeartbeats 4000000
namespace Pw
open PySem L2
theorem all_mk {l : PySem.W.OpenLaw} {w : World} {K : PySem.W.Frag} {h : Heap} {mg : Str → Option Value} {fa f1 f2 f3 f4 f5 f6 f7 f8 f9 f10 f11 f12 f13 f14 f15 f16 f17 f18 f19 f20 f21 f22 f23 f24 f25 f26 f27 f28 f29 f30 f31 dt : Addr}
    {od1 an1 od2 an2 od3 an3 od4 an4 od5 an5 od6 an6 od7 an7 od8 an8 od9 an9 od10 an10 od11 an11 od12 an12 od13 an13 od14 an14 od15 an15 od16 an16 od17 an17 od18 an18 od19 an19 od20 an20 od21 an21 od22 an22 od23 an23 od24 an24 od25 an25 od26 an26 od27 an27 od28 an28 od29 an29 od30 an30 od31 an31 : Option Addr}
    {sl1 sl2 sl3 sl4 sl5 sl6 sl7 sl8 sl9 sl10 sl11 sl12 sl13 sl14 sl15 sl16 sl17 sl18 sl19 sl20 sl21 sl22 sl23 sl24 sl25 sl26 sl27 sl28 sl29 sl30 sl31 : Array (Option Value)}
    {oc1 kV1 dc1 pm1 cd1 ct1 oc2 kV2 dc2 pm2 cd2 ct2 oc3 kV3 dc3 pm3 cd3 ct3 oc4 kV4 dc4 pm4 cd4 ct4 oc5 kV5 dc5 pm5 cd5 ct5 oc6 kV6 dc6 pm6 cd6 ct6 oc7 kV7 dc7 pm7 cd7 ct7 oc8 kV8 dc8 pm8 cd8 ct8 oc9 kV9 dc9 pm9 cd9 ct9 oc10 kV10 dc10 pm10 cd10 ct10 oc11 kV11 dc11 pm11 cd11 ct11 oc12 kV12 dc12 pm12 cd12 ct12 oc13 kV13 dc13 pm13 cd13 ct13 oc14 kV14 dc14 pm14 cd14 ct14 oc15 kV15 dc15 pm15 cd15 ct15 oc16 kV16 dc16 pm16 cd16 ct16 oc17 kV17 dc17 pm17 cd17 ct17 oc18 kV18 dc18 pm18 cd18 ct18 oc19 kV19 dc19 pm19 cd19 ct19 oc20 kV20 dc20 pm20 cd20 ct20 oc21 kV21 dc21 pm21 cd21 ct21 oc22 kV22 dc22 pm22 cd22 ct22 oc23 kV23 dc23 pm23 cd23 ct23 oc24 kV24 dc24 pm24 cd24 ct24 oc25 kV25 dc25 pm25 cd25 ct25 oc26 kV26 dc26 pm26 cd26 ct26 oc27 kV27 dc27 pm27 cd27 ct27 oc28 kV28 dc28 pm28 cd28 ct28 oc29 kV29 dc29 pm29 cd29 ct29 oc30 kV30 dc30 pm30 cd30 ct30 oc31 kV31 dc31 pm31 cd31 ct31 : Value}
    {C0 C1 C2 C3 C4 C5 C6 C7 C8 : Addr}
    {aN aO : Addr} {aod bod : Option Addr} {an0 bn0 : Nat} {asl bsl : Array (Option Value)} {u1 u2 u3 u4 : Tok}
    {tod : Option Addr} {tn : Nat} {tsl : Array (Option Value)} {t1 : Tok}
    (X : K.In h) (G : h.Ns mainGlobals mg) (hfa : mg "law" = some (.ref fa))
    (a1 : PySem.W.nsIn K mainGlobals "greatest_divisor" = some (some (.ref f1))) (l1 : K.lookup f1 = some ⟨oc1, od1, .func (PySem.W.fnOf "greatest_divisor" "greatest_divisor" (defArgs s_greatest_divisor) (defBody s_greatest_divisor) (defScope s_greatest_divisor) .none kV1 dc1 pm1 an1 cd1 ct1), sl1⟩) (c1 : PySem.W.codeIn K cd1 "greatest_divisor" = true) (k1 : PySem.W.keepIn K (.ref f1) = true)
    (a2 : PySem.W.nsIn K mainGlobals "fraction" = some (some (.ref f2))) (l2 : K.lookup f2 = some ⟨oc2, od2, .func (PySem.W.fnOf "fraction" "fraction" (defArgs s_fraction) (defBody s_fraction) (defScope s_fraction) (.ref dt) kV2 dc2 pm2 an2 cd2 ct2), sl2⟩) (c2 : PySem.W.codeIn K cd2 "fraction" = true) (k2 : PySem.W.keepIn K (.ref f2) = true)
    (a3 : PySem.W.nsIn K mainGlobals "plus" = some (some (.ref f3))) (l3 : K.lookup f3 = some ⟨oc3, od3, .func (PySem.W.fnOf "plus" "plus" (defArgs s_plus) (defBody s_plus) (defScope s_plus) .none kV3 dc3 pm3 an3 cd3 ct3), sl3⟩) (c3 : PySem.W.codeIn K cd3 "plus" = true) (k3 : PySem.W.keepIn K (.ref f3) = true)
    (a4 : PySem.W.nsIn K mainGlobals "times" = some (some (.ref f4))) (l4 : K.lookup f4 = some ⟨oc4, od4, .func (PySem.W.fnOf "times" "times" (defArgs s_times) (defBody s_times) (defScope s_times) .none kV4 dc4 pm4 an4 cd4 ct4), sl4⟩) (c4 : PySem.W.codeIn K cd4 "times" = true) (k4 : PySem.W.keepIn K (.ref f4) = true)
    (a5 : PySem.W.nsIn K mainGlobals "sign" = some (some (.ref f5))) (l5 : K.lookup f5 = some ⟨oc5, od5, .func (PySem.W.fnOf "sign" "sign" (defArgs s_sign) (defBody s_sign) (defScope s_sign) .none kV5 dc5 pm5 an5 cd5 ct5), sl5⟩) (c5 : PySem.W.codeIn K cd5 "sign" = true) (k5 : PySem.W.keepIn K (.ref f5) = true)
    (a6 : PySem.W.nsIn K mainGlobals "plain" = some (some (.ref f6))) (l6 : K.lookup f6 = some ⟨oc6, od6, .func (PySem.W.fnOf "plain" "plain" (defArgs s_plain) (defBody s_plain) (defScope s_plain) .none kV6 dc6 pm6 an6 cd6 ct6), sl6⟩) (c6 : PySem.W.codeIn K cd6 "plain" = true) (k6 : PySem.W.keepIn K (.ref f6) = true)
    (a7 : PySem.W.nsIn K mainGlobals "single" = some (some (.ref f7))) (l7 : K.lookup f7 = some ⟨oc7, od7, .func (PySem.W.fnOf "single" "single" (defArgs s_single) (defBody s_single) (defScope s_single) .none kV7 dc7 pm7 an7 cd7 ct7), sl7⟩) (c7 : PySem.W.codeIn K cd7 "single" = true) (k7 : PySem.W.keepIn K (.ref f7) = true)
    (a8 : PySem.W.nsIn K mainGlobals "pairs_of" = some (some (.ref f8))) (l8 : K.lookup f8 = some ⟨oc8, od8, .func (PySem.W.fnOf "pairs_of" "pairs_of" (defArgs s_pairs_of) (defBody s_pairs_of) (defScope s_pairs_of) .none kV8 dc8 pm8 an8 cd8 ct8), sl8⟩) (c8 : PySem.W.codeIn K cd8 "pairs_of" = true) (k8 : PySem.W.keepIn K (.ref f8) = true)
    (a9 : PySem.W.nsIn K mainGlobals "added" = some (some (.ref f9))) (l9 : K.lookup f9 = some ⟨oc9, od9, .func (PySem.W.fnOf "added" "added" (defArgs s_added) (defBody s_added) (defScope s_added) .none kV9 dc9 pm9 an9 cd9 ct9), sl9⟩) (c9 : PySem.W.codeIn K cd9 "added" = true) (k9 : PySem.W.keepIn K (.ref f9) = true)
    (a10 : PySem.W.nsIn K mainGlobals "scaled" = some (some (.ref f10))) (l10 : K.lookup f10 = some ⟨oc10, od10, .func (PySem.W.fnOf "scaled" "scaled" (defArgs s_scaled) (defBody s_scaled) (defScope s_scaled) .none kV10 dc10 pm10 an10 cd10 ct10), sl10⟩) (c10 : PySem.W.codeIn K cd10 "scaled" = true) (k10 : PySem.W.keepIn K (.ref f10) = true)
    (a11 : PySem.W.nsIn K mainGlobals "multiplied" = some (some (.ref f11))) (l11 : K.lookup f11 = some ⟨oc11, od11, .func (PySem.W.fnOf "multiplied" "multiplied" (defArgs s_multiplied) (defBody s_multiplied) (defScope s_multiplied) .none kV11 dc11 pm11 an11 cd11 ct11), sl11⟩) (c11 : PySem.W.codeIn K cd11 "multiplied" = true) (k11 : PySem.W.keepIn K (.ref f11) = true)
    (a12 : PySem.W.nsIn K mainGlobals "worth" = some (some (.ref f12))) (l12 : K.lookup f12 = some ⟨oc12, od12, .func (PySem.W.fnOf "worth" "worth" (defArgs s_worth) (defBody s_worth) (defScope s_worth) .none kV12 dc12 pm12 an12 cd12 ct12), sl12⟩) (c12 : PySem.W.codeIn K cd12 "worth" = true) (k12 : PySem.W.keepIn K (.ref f12) = true)
    (a13 : PySem.W.nsIn K mainGlobals "_law_cell_at" = some (some (.ref f13))) (l13 : K.lookup f13 = some ⟨oc13, od13, .func (PySem.W.fnOf "_law_cell_at" "_law_cell_at" (defArgs s_cell_at) (defBody s_cell_at) (defScope s_cell_at) .none kV13 dc13 pm13 an13 cd13 ct13), sl13⟩) (c13 : PySem.W.codeIn K cd13 "_law_cell_at" = true) (k13 : PySem.W.keepIn K (.ref f13) = true)
    (a14 : PySem.W.nsIn K mainGlobals "_law_mixed" = some (some (.ref f14))) (l14 : K.lookup f14 = some ⟨oc14, od14, .func (PySem.W.fnOf "_law_mixed" "_law_mixed" (defArgs s_mixed) (defBody s_mixed) (defScope s_mixed) .none kV14 dc14 pm14 an14 cd14 ct14), sl14⟩) (c14 : PySem.W.codeIn K cd14 "_law_mixed" = true) (k14 : PySem.W.keepIn K (.ref f14) = true)
    (a15 : PySem.W.nsIn K mainGlobals "_law_whole" = some (some (.ref f15))) (l15 : K.lookup f15 = some ⟨oc15, od15, .func (PySem.W.fnOf "_law_whole" "_law_whole" (defArgs s_whole) (defBody s_whole) (defScope s_whole) .none kV15 dc15 pm15 an15 cd15 ct15), sl15⟩) (c15 : PySem.W.codeIn K cd15 "_law_whole" = true) (k15 : PySem.W.keepIn K (.ref f15) = true)
    (a16 : PySem.W.nsIn K mainGlobals "_law_shared" = some (some (.ref f16))) (l16 : K.lookup f16 = some ⟨oc16, od16, .func (PySem.W.fnOf "_law_shared" "_law_shared" (defArgs s_shared) (defBody s_shared) (defScope s_shared) .none kV16 dc16 pm16 an16 cd16 ct16), sl16⟩) (c16 : PySem.W.codeIn K cd16 "_law_shared" = true) (k16 : PySem.W.keepIn K (.ref f16) = true)
    (a17 : PySem.W.nsIn K mainGlobals "_law_number" = some (some (.ref f17))) (l17 : K.lookup f17 = some ⟨oc17, od17, .func (PySem.W.fnOf "_law_number" "_law_number" (defArgs s_number) (defBody s_number) (defScope s_number) .none kV17 dc17 pm17 an17 cd17 ct17), sl17⟩) (c17 : PySem.W.codeIn K cd17 "_law_number" = true) (k17 : PySem.W.keepIn K (.ref f17) = true)
    (a18 : PySem.W.nsIn K mainGlobals "_law_low" = some (some (.ref f18))) (l18 : K.lookup f18 = some ⟨oc18, od18, .func (PySem.W.fnOf "_law_low" "_law_low" (defArgs s_low) (defBody s_low) (defScope s_low) .none kV18 dc18 pm18 an18 cd18 ct18), sl18⟩) (c18 : PySem.W.codeIn K cd18 "_law_low" = true) (k18 : PySem.W.keepIn K (.ref f18) = true)
    (a19 : PySem.W.nsIn K mainGlobals "_law_part" = some (some (.ref f19))) (l19 : K.lookup f19 = some ⟨oc19, od19, .func (PySem.W.fnOf "_law_part" "_law_part" (defArgs s_part) (defBody s_part) (defScope s_part) .none kV19 dc19 pm19 an19 cd19 ct19), sl19⟩) (c19 : PySem.W.codeIn K cd19 "_law_part" = true) (k19 : PySem.W.keepIn K (.ref f19) = true)
    (a20 : PySem.W.nsIn K mainGlobals "_law_sum" = some (some (.ref f20))) (l20 : K.lookup f20 = some ⟨oc20, od20, .func (PySem.W.fnOf "_law_sum" "_law_sum" (defArgs s_sum) (defBody s_sum) (defScope s_sum) .none kV20 dc20 pm20 an20 cd20 ct20), sl20⟩) (c20 : PySem.W.codeIn K cd20 "_law_sum" = true) (k20 : PySem.W.keepIn K (.ref f20) = true)
    (a21 : PySem.W.nsIn K mainGlobals "_law_alike" = some (some (.ref f21))) (l21 : K.lookup f21 = some ⟨oc21, od21, .func (PySem.W.fnOf "_law_alike" "_law_alike" (defArgs s_alike) (defBody s_alike) (defScope s_alike) .none kV21 dc21 pm21 an21 cd21 ct21), sl21⟩) (c21 : PySem.W.codeIn K cd21 "_law_alike" = true) (k21 : PySem.W.keepIn K (.ref f21) = true)
    (a22 : PySem.W.nsIn K mainGlobals "_law_plus" = some (some (.ref f22))) (l22 : K.lookup f22 = some ⟨oc22, od22, .func (PySem.W.fnOf "_law_plus" "_law_plus" (defArgs s_lplus) (defBody s_lplus) (defScope s_lplus) .none kV22 dc22 pm22 an22 cd22 ct22), sl22⟩) (c22 : PySem.W.codeIn K cd22 "_law_plus" = true) (k22 : PySem.W.keepIn K (.ref f22) = true)
    (a23 : PySem.W.nsIn K mainGlobals "_law_times" = some (some (.ref f23))) (l23 : K.lookup f23 = some ⟨oc23, od23, .func (PySem.W.fnOf "_law_times" "_law_times" (defArgs s_ltimes) (defBody s_ltimes) (defScope s_ltimes) .none kV23 dc23 pm23 an23 cd23 ct23), sl23⟩) (c23 : PySem.W.codeIn K cd23 "_law_times" = true) (k23 : PySem.W.keepIn K (.ref f23) = true)
    (a24 : PySem.W.nsIn K mainGlobals "_law_of" = some (some (.ref f24))) (l24 : K.lookup f24 = some ⟨oc24, od24, .func (PySem.W.fnOf "_law_of" "_law_of" (defArgs s_of) (defBody s_of) (defScope s_of) .none kV24 dc24 pm24 an24 cd24 ct24), sl24⟩) (c24 : PySem.W.codeIn K cd24 "_law_of" = true) (k24 : PySem.W.keepIn K (.ref f24) = true)
    (a25 : PySem.W.nsIn K mainGlobals "_law_added" = some (some (.ref f25))) (l25 : K.lookup f25 = some ⟨oc25, od25, .func (PySem.W.fnOf "_law_added" "_law_added" (defArgs s_ladded) (defBody s_ladded) (defScope s_ladded) .none kV25 dc25 pm25 an25 cd25 ct25), sl25⟩) (c25 : PySem.W.codeIn K cd25 "_law_added" = true) (k25 : PySem.W.keepIn K (.ref f25) = true)
    (a26 : PySem.W.nsIn K mainGlobals "_law_scaled" = some (some (.ref f26))) (l26 : K.lookup f26 = some ⟨oc26, od26, .func (PySem.W.fnOf "_law_scaled" "_law_scaled" (defArgs s_lscaled) (defBody s_lscaled) (defScope s_lscaled) .none kV26 dc26 pm26 an26 cd26 ct26), sl26⟩) (c26 : PySem.W.codeIn K cd26 "_law_scaled" = true) (k26 : PySem.W.keepIn K (.ref f26) = true)
    (a27 : PySem.W.nsIn K mainGlobals "_law_is" = some (some (.ref f27))) (l27 : K.lookup f27 = some ⟨oc27, od27, .func (PySem.W.fnOf "_law_is" "_law_is" (defArgs s_is) (defBody s_is) (defScope s_is) .none kV27 dc27 pm27 an27 cd27 ct27), sl27⟩) (c27 : PySem.W.codeIn K cd27 "_law_is" = true) (k27 : PySem.W.keepIn K (.ref f27) = true)
    (a28 : PySem.W.nsIn K mainGlobals "_law_refused" = some (some (.ref f28))) (l28 : K.lookup f28 = some ⟨oc28, od28, .func (PySem.W.fnOf "_law_refused" "_law_refused" (defArgs s_refused) (defBody s_refused) (defScope s_refused) .none kV28 dc28 pm28 an28 cd28 ct28), sl28⟩) (c28 : PySem.W.codeIn K cd28 "_law_refused" = true) (k28 : PySem.W.keepIn K (.ref f28) = true)
    (a29 : PySem.W.nsIn K mainGlobals "_law_multiplied" = some (some (.ref f29))) (l29 : K.lookup f29 = some ⟨oc29, od29, .func (PySem.W.fnOf "_law_multiplied" "_law_multiplied" (defArgs s_lmul) (defBody s_lmul) (defScope s_lmul) .none kV29 dc29 pm29 an29 cd29 ct29), sl29⟩) (c29 : PySem.W.codeIn K cd29 "_law_multiplied" = true) (k29 : PySem.W.keepIn K (.ref f29) = true)
    (a30 : PySem.W.nsIn K mainGlobals "_law_worth" = some (some (.ref f30))) (l30 : K.lookup f30 = some ⟨oc30, od30, .func (PySem.W.fnOf "_law_worth" "_law_worth" (defArgs s_lworth) (defBody s_lworth) (defScope s_lworth) .none kV30 dc30 pm30 an30 cd30 ct30), sl30⟩) (c30 : PySem.W.codeIn K cd30 "_law_worth" = true) (k30 : PySem.W.keepIn K (.ref f30) = true)
    (a31 : PySem.W.nsIn K mainGlobals "law" = some (some (.ref f31))) (l31 : K.lookup f31 = some ⟨oc31, od31, .func (PySem.W.fnOf "law" "law" (defArgs s_law) (defBody s_law) (defScope s_law) .none kV31 dc31 pm31 an31 cd31 ct31), sl31⟩) (c31 : PySem.W.codeIn K cd31 "law" = true) (k31 : PySem.W.keepIn K (.ref f31) = true)
    (dl : K.lookup dt = some ⟨.type "tuple", tod, .seq #[.int 1 t1] tn, tsl⟩)
    (x0 : PySem.W.nsIn K mainGlobals "NotLinear" = some (some (.ref C0)))
    (x1 : PySem.W.nsIn K mainGlobals "PlanError" = some (some (.ref C1)))
    (x2 : PySem.W.nsIn K mainGlobals "BadEnds" = some (some (.ref C2)))
    (x3 : PySem.W.nsIn K mainGlobals "BadFraction" = some (some (.ref C3)))
    (x4 : PySem.W.nsIn K mainGlobals "BadGoal" = some (some (.ref C4)))
    (x5 : PySem.W.nsIn K mainGlobals "BadName" = some (some (.ref C5)))
    (x6 : PySem.W.nsIn K mainGlobals "BadTable" = some (some (.ref C6)))
    (x7 : PySem.W.nsIn K mainGlobals "BadText" = some (some (.ref C7)))
    (x8 : PySem.W.nsIn K mainGlobals "TooMany" = some (some (.ref C8)))
    (q0 : PySem.W.excIn K C0 veB "ValueError.__new__" = true)
    (q1 : PySem.W.excIn K C1 veB "ValueError.__new__" = true)
    (mro : PySem.W.mroIn K C0 (.ref C1) = some true)
    (e1 : PySem.W.findIn K (.ref C0) "__getattribute__" = some (some (.builtin "BaseException.__getattribute__")))
    (e2 : PySem.W.findIn K (.ref C0) "__getattr__" = some none)
    (e3 : PySem.W.findIn K (.ref C0) "__class__" = some (some (.builtin "object.__class__")))
    (e4 : PySem.W.specialIn K (.builtin "object.__class__") "__get__" = some (some (.builtin "getset_descriptor.__get__")))
    (e5 : PySem.W.takesIn K (.builtin "object.__class__") = some true)
    (e6 : PySem.W.mroIn K C0 (.type "object") = some true)
    (e7 : PySem.W.mroIn K C0 (.type "BaseException") = some true)
    (no : PySem.W.kitAny K (.ref C0) [.ref C2, .ref C3, .ref C4, .ref C5, .ref C6, .ref C7, .ref C8] = some false)
    (me : PySem.W.kitOne K (.ref C0) (.ref C0) = some true)
    (va : PySem.W.kitOne K (.ref C0) (.type "ValueError") = some true)
    (z_isinstance : PySem.W.nsIn K mainGlobals "isinstance" = some none)
    (z_int : PySem.W.nsIn K mainGlobals "int" = some none)
    (z_bool : PySem.W.nsIn K mainGlobals "bool" = some none)
    (z_tuple : PySem.W.nsIn K mainGlobals "tuple" = some none)
    (z_len : PySem.W.nsIn K mainGlobals "len" = some none)
    (z_abs : PySem.W.nsIn K mainGlobals "abs" = some none)
    (z_dict : PySem.W.nsIn K mainGlobals "dict" = some none)
    (z_list : PySem.W.nsIn K mainGlobals "list" = some none)
    (z_range : PySem.W.nsIn K mainGlobals "range" = some none)
    (z_enumerate : PySem.W.nsIn K mainGlobals "enumerate" = some none)
    (z_sorted : PySem.W.nsIn K mainGlobals "sorted" = some none)
    (z_max : PySem.W.nsIn K mainGlobals "max" = some none)
    (z_all : PySem.W.nsIn K mainGlobals "all" = some none)
    (z_ValueError : PySem.W.nsIn K mainGlobals "ValueError" = some none)
    (g1 : PySem.W.nsIn K mainGlobals "NOUGHT" = some (some (.ref aN)))
    (g2 : K.lookup aN = some ⟨.type "tuple", aod, .seq #[.int 0 u1, .int 1 u2] an0, asl⟩)
    (g3 : PySem.W.nsIn K mainGlobals "ONE" = some (some (.ref aO)))
    (g4 : K.lookup aO = some ⟨.type "tuple", bod, .seq #[.int 1 u3, .int 1 u4] bn0, bsl⟩)
    (qb : PySem.W.excIn K C3 veB "ValueError.__new__" = true) :
    ∃ fd : FuncData, (∀ (s : Shared) (v : Value), BindsTo s fd ⟨[v], []⟩ [("_law_script", v)]) ∧ ∀ base : Heap, K.In base → base.Ns mainGlobals mg → FnOk l.prog w K mg base CX0 9 fa fd ["_law_script"] (spLaw K) := by
  have e := hfa.symm.trans (PySem.W.mg_of X G a31)
  cases e
  have M := fun {x : Str} {v : Value} (q : PySem.W.nsIn K mainGlobals x = some (some v)) => PySem.W.mg_of X G q
  have Z := fun {x : Str} (q : PySem.W.nsIn K mainGlobals x = some none) => PySem.W.mg_none_of X G q
  have B : Blt mg := ⟨Z z_isinstance, Z z_int, Z z_bool, Z z_tuple, Z z_len, Z z_abs, Z z_dict, Z z_list, Z z_range, Z z_enumerate, Z z_sorted, Z z_max, Z z_all⟩
  have D1 : DefAt K mg "greatest_divisor" s_greatest_divisor f1 _ ["one", "other"] := ⟨fun_mk (st := s_greatest_divisor) l1 c1 k1, (fun_mk (st := s_greatest_divisor) l1 c1 k1).binds (ps := ["one", "other"]) fun _ _ _ _ _ _ us hl => match us, hl with | [_, _], _ => rfl, M a1⟩
  have D2 : DefD K mg "fraction" s_fraction (.ref dt) f2 _ ["top", "bottom"] [.int 1 t1] := ⟨funD_mk (st := s_fraction) l2 c2 k2, (fun s us KX hl => by
      obtain ⟨u, v, rfl⟩ : ∃ u v, us = [u, v] := by
        rcases us with _ | ⟨u, _ | ⟨v, _ | ⟨z, r⟩⟩⟩ <;> simp at hl
        exact ⟨u, v, rfl⟩
      exact BindsTo.of_defaults rfl (KX _ _ dl) rfl rfl rfl), (fun s us KX hl => by
      obtain ⟨u, rfl⟩ : ∃ u, us = [u] := by
        rcases us with _ | ⟨u, _ | ⟨v, r⟩⟩ <;> simp at hl
        exact ⟨u, rfl⟩
      exact BindsTo.of_defaults rfl (KX _ _ dl) rfl rfl rfl), .cons ⟨t1, rfl⟩ .nil, M a2⟩
  have D3 : DefAt K mg "plus" s_plus f3 _ ["one", "other"] := ⟨fun_mk (st := s_plus) l3 c3 k3, (fun_mk (st := s_plus) l3 c3 k3).binds (ps := ["one", "other"]) fun _ _ _ _ _ _ us hl => match us, hl with | [_, _], _ => rfl, M a3⟩
  have D4 : DefAt K mg "times" s_times f4 _ ["one", "other"] := ⟨fun_mk (st := s_times) l4 c4 k4, (fun_mk (st := s_times) l4 c4 k4).binds (ps := ["one", "other"]) fun _ _ _ _ _ _ us hl => match us, hl with | [_, _], _ => rfl, M a4⟩
  have D5 : DefAt K mg "sign" s_sign f5 _ ["one"] := ⟨fun_mk (st := s_sign) l5 c5 k5, (fun_mk (st := s_sign) l5 c5 k5).binds (ps := ["one"]) fun _ _ _ _ _ _ us hl => match us, hl with | [_], _ => rfl, M a5⟩
  have D6 : DefAt K mg "plain" s_plain f6 _ ["one"] := ⟨fun_mk (st := s_plain) l6 c6 k6, (fun_mk (st := s_plain) l6 c6 k6).binds (ps := ["one"]) fun _ _ _ _ _ _ us hl => match us, hl with | [_], _ => rfl, M a6⟩
  have D7 : DefAt K mg "single" s_single f7 _ ["number"] := ⟨fun_mk (st := s_single) l7 c7 k7, (fun_mk (st := s_single) l7 c7 k7).binds (ps := ["number"]) fun _ _ _ _ _ _ us hl => match us, hl with | [_], _ => rfl, M a7⟩
  have D8 : DefAt K mg "pairs_of" s_pairs_of f8 _ ["parts"] := ⟨fun_mk (st := s_pairs_of) l8 c8 k8, (fun_mk (st := s_pairs_of) l8 c8 k8).binds (ps := ["parts"]) fun _ _ _ _ _ _ us hl => match us, hl with | [_], _ => rfl, M a8⟩
  have D9 : DefAt K mg "added" s_added f9 _ ["one", "other"] := ⟨fun_mk (st := s_added) l9 c9 k9, (fun_mk (st := s_added) l9 c9 k9).binds (ps := ["one", "other"]) fun _ _ _ _ _ _ us hl => match us, hl with | [_, _], _ => rfl, M a9⟩
  have D10 : DefAt K mg "scaled" s_scaled f10 _ ["one", "part"] := ⟨fun_mk (st := s_scaled) l10 c10 k10, (fun_mk (st := s_scaled) l10 c10 k10).binds (ps := ["one", "part"]) fun _ _ _ _ _ _ us hl => match us, hl with | [_, _], _ => rfl, M a10⟩
  have D11 : DefAt K mg "multiplied" s_multiplied f11 _ ["one", "other"] := ⟨fun_mk (st := s_multiplied) l11 c11 k11, (fun_mk (st := s_multiplied) l11 c11 k11).binds (ps := ["one", "other"]) fun _ _ _ _ _ _ us hl => match us, hl with | [_, _], _ => rfl, M a11⟩
  have D12 : DefAt K mg "worth" s_worth f12 _ ["one", "values"] := ⟨fun_mk (st := s_worth) l12 c12 k12, (fun_mk (st := s_worth) l12 c12 k12).binds (ps := ["one", "values"]) fun _ _ _ _ _ _ us hl => match us, hl with | [_, _], _ => rfl, M a12⟩
  have D13 : DefAt K mg "_law_cell_at" s_cell_at f13 _ ["_law_script", "_law_k"] := ⟨fun_mk (st := s_cell_at) l13 c13 k13, (fun_mk (st := s_cell_at) l13 c13 k13).binds (ps := ["_law_script", "_law_k"]) fun _ _ _ _ _ _ us hl => match us, hl with | [_, _], _ => rfl, M a13⟩
  have D14 : DefAt K mg "_law_mixed" s_mixed f14 _ ["_law_cell", "_law_k"] := ⟨fun_mk (st := s_mixed) l14 c14 k14, (fun_mk (st := s_mixed) l14 c14 k14).binds (ps := ["_law_cell", "_law_k"]) fun _ _ _ _ _ _ us hl => match us, hl with | [_, _], _ => rfl, M a14⟩
  have D15 : DefAt K mg "_law_whole" s_whole f15 _ ["_law_found"] := ⟨fun_mk (st := s_whole) l15 c15 k15, (fun_mk (st := s_whole) l15 c15 k15).binds (ps := ["_law_found"]) fun _ _ _ _ _ _ us hl => match us, hl with | [_], _ => rfl, M a15⟩
  have D16 : DefAt K mg "_law_shared" s_shared f16 _ ["_law_one", "_law_other"] := ⟨fun_mk (st := s_shared) l16 c16 k16, (fun_mk (st := s_shared) l16 c16 k16).binds (ps := ["_law_one", "_law_other"]) fun _ _ _ _ _ _ us hl => match us, hl with | [_, _], _ => rfl, M a16⟩
  have D17 : DefAt K mg "_law_number" s_number f17 _ ["_law_cell", "_law_k"] := ⟨fun_mk (st := s_number) l17 c17 k17, (fun_mk (st := s_number) l17 c17 k17).binds (ps := ["_law_cell", "_law_k"]) fun _ _ _ _ _ _ us hl => match us, hl with | [_, _], _ => rfl, M a17⟩
  have D18 : DefAt K mg "_law_low" s_low f18 _ ["_law_top", "_law_bottom"] := ⟨fun_mk (st := s_low) l18 c18 k18, (fun_mk (st := s_low) l18 c18 k18).binds (ps := ["_law_top", "_law_bottom"]) fun _ _ _ _ _ _ us hl => match us, hl with | [_, _], _ => rfl, M a18⟩
  have D19 : DefAt K mg "_law_part" s_part f19 _ ["_law_cell"] := ⟨fun_mk (st := s_part) l19 c19 k19, (fun_mk (st := s_part) l19 c19 k19).binds (ps := ["_law_cell"]) fun _ _ _ _ _ _ us hl => match us, hl with | [_], _ => rfl, M a19⟩
  have D20 : DefAt K mg "_law_sum" s_sum f20 _ ["_law_cell", "_law_more"] := ⟨fun_mk (st := s_sum) l20 c20 k20, (fun_mk (st := s_sum) l20 c20 k20).binds (ps := ["_law_cell", "_law_more"]) fun _ _ _ _ _ _ us hl => match us, hl with | [_, _], _ => rfl, M a20⟩
  have D21 : DefAt K mg "_law_alike" s_alike f21 _ ["_law_one", "_law_other", "_law_cell"] := ⟨fun_mk (st := s_alike) l21 c21 k21, (fun_mk (st := s_alike) l21 c21 k21).binds (ps := ["_law_one", "_law_other", "_law_cell"]) fun _ _ _ _ _ _ us hl => match us, hl with | [_, _, _], _ => rfl, M a21⟩
  have D22 : DefAt K mg "_law_plus" s_lplus f22 _ ["_law_one", "_law_other"] := ⟨fun_mk (st := s_lplus) l22 c22 k22, (fun_mk (st := s_lplus) l22 c22 k22).binds (ps := ["_law_one", "_law_other"]) fun _ _ _ _ _ _ us hl => match us, hl with | [_, _], _ => rfl, M a22⟩
  have D23 : DefAt K mg "_law_times" s_ltimes f23 _ ["_law_one", "_law_other"] := ⟨fun_mk (st := s_ltimes) l23 c23 k23, (fun_mk (st := s_ltimes) l23 c23 k23).binds (ps := ["_law_one", "_law_other"]) fun _ _ _ _ _ _ us hl => match us, hl with | [_, _], _ => rfl, M a23⟩
  have D24 : DefAt K mg "_law_of" s_of f24 _ ["_law_constant", "_law_parts"] := ⟨fun_mk (st := s_of) l24 c24 k24, (fun_mk (st := s_of) l24 c24 k24).binds (ps := ["_law_constant", "_law_parts"]) fun _ _ _ _ _ _ us hl => match us, hl with | [_, _], _ => rfl, M a24⟩
  have D25 : DefAt K mg "_law_added" s_ladded f25 _ ["_law_one", "_law_other"] := ⟨fun_mk (st := s_ladded) l25 c25 k25, (fun_mk (st := s_ladded) l25 c25 k25).binds (ps := ["_law_one", "_law_other"]) fun _ _ _ _ _ _ us hl => match us, hl with | [_, _], _ => rfl, M a25⟩
  have D26 : DefAt K mg "_law_scaled" s_lscaled f26 _ ["_law_one", "_law_part_here"] := ⟨fun_mk (st := s_lscaled) l26 c26 k26, (fun_mk (st := s_lscaled) l26 c26 k26).binds (ps := ["_law_one", "_law_part_here"]) fun _ _ _ _ _ _ us hl => match us, hl with | [_, _], _ => rfl, M a26⟩
  have D27 : DefAt K mg "_law_is" s_is f27 _ ["_law_found", "_law_due"] := ⟨fun_mk (st := s_is) l27 c27 k27, (fun_mk (st := s_is) l27 c27 k27).binds (ps := ["_law_found", "_law_due"]) fun _ _ _ _ _ _ us hl => match us, hl with | [_, _], _ => rfl, M a27⟩
  have D28 : DefAt K mg "_law_refused" s_refused f28 _ ["_law_one", "_law_other"] := ⟨fun_mk (st := s_refused) l28 c28 k28, (fun_mk (st := s_refused) l28 c28 k28).binds (ps := ["_law_one", "_law_other"]) fun _ _ _ _ _ _ us hl => match us, hl with | [_, _], _ => rfl, M a28⟩
  have D29 : DefAt K mg "_law_multiplied" s_lmul f29 _ ["_law_one", "_law_other"] := ⟨fun_mk (st := s_lmul) l29 c29 k29, (fun_mk (st := s_lmul) l29 c29 k29).binds (ps := ["_law_one", "_law_other"]) fun _ _ _ _ _ _ us hl => match us, hl with | [_, _], _ => rfl, M a29⟩
  have D30 : DefAt K mg "_law_worth" s_lworth f30 _ ["_law_one", "_law_values", "_law_is_list"] := ⟨fun_mk (st := s_lworth) l30 c30 k30, (fun_mk (st := s_lworth) l30 c30 k30).binds (ps := ["_law_one", "_law_values", "_law_is_list"]) fun _ _ _ _ _ _ us hl => match us, hl with | [_, _, _], _ => rfl, M a30⟩
  have E : Errs K mg C0 C1 C2 C3 C4 C5 C6 C7 C8 := ⟨⟨M x0, q0⟩, M x1, q1, M x2, M x3, M x4, M x5, M x6, M x7, M x8, Z z_ValueError, mro, ⟨e1, e2, e3, e4, e5, e6, e7⟩, clsIn_of q0, no, me, va⟩
  exact ⟨_, fun s v => .of_eq rfl, fun base _ _ => ok_law (fun_mk (st := s_law) l31 c31 k31) B (show Cst K mg aN aO from ⟨M g1, M g3, fun H => .inr ⟨_, _, _, g2, rfl, rfl, (by show 2 ≤ sizeLine; decide), .cons ⟨_, rfl⟩ (.cons ⟨_, rfl⟩ .nil)⟩, fun H => .inr ⟨_, _, _, g4, rfl, rfl, (by show 2 ≤ sizeLine; decide), .cons ⟨_, rfl⟩ (.cons ⟨_, rfl⟩ .nil)⟩⟩) E D2 D1 ⟨M x3, qb⟩ D4 D5 D6 D10 D11 D28 D26 D23 D24 D18 D16 D27 D15 D13 D20 D14 D19 D17 D21 D7 D9 D3 D8 D25 D22 D29 D30 D12⟩
theorem walk {l : PySem.W.OpenLaw} {q : Program} {loose : List Str} {XP : (Str → Option Value) → Heap → Prop} {YP : World → Heap → Prop} {d : DefRec} {K : Params → PySem.W.Frag} (hn : l.most = some 63) (hdf : d.params.defaults = [])
    (hY : ∀ (w : World) (h : Heap), YP w h → (K w.params).In h)
    (F : ∀ (w : World) (mg : Str → Option Value) (fa : Addr) (h : Heap), (K w.params).In h → h.Ns mainGlobals mg → mg d.name = some (.ref fa) →
      ∃ fd : FuncData, (∀ (s : Shared) (u : Value), BindsTo s fd ⟨[u], []⟩ [("_law_script", u)]) ∧ ∀ base : Heap, (K w.params).In base → base.Ns mainGlobals mg → FnOk l.prog w (K w.params) mg base CX0 9 fa fd ["_law_script"] (spLaw (K w.params))) :
    PySem.W.WalkO q loose XP YP l.row.toRowW d [] (fun f vs => PySem.call f vs) :=
  L2.walk_of (n := 63) (k := 9) (x := "_law_script") (CX := fun _ => CX0) (sp := fun w => spLaw (K w.params)) hn (by decide) hdf ⟨rfl, by decide, by decide⟩ hY F (fun _ _ a ns hl _ hS => ⟨a, ns, rfl, hS, hl, fun _ => rfl⟩) fun _ _ _ _ _ z => z
end Pw
open PySem PySem.W PyProof.Rows
set_option maxRecDepth 100000 in
set_option maxHeartbeats 0 in
theorem PySem.Challenge.cw_planwell_k04_sums_holds : PySem.Challenge.rw_planwell_k04_sums.Holds := by
  w_on; o_law; k_head; (case hw => w_witness2)
  k_fill
  refine Pw.walk (l := PySem.Challenge.rw_planwell_k04_sums) rfl rfl (fun w h Y => PySem.W.kIn_of Y) ?F
  case F =>
    intro w mg fa h KX G hmg
    refine' Pw.all_mk KX G hmg ?a1 ?l1 ?c1 ?k1 ?a2 ?l2 ?c2 ?k2 ?a3 ?l3 ?c3 ?k3 ?a4 ?l4 ?c4 ?k4 ?a5 ?l5 ?c5 ?k5 ?a6 ?l6 ?c6 ?k6 ?a7 ?l7 ?c7 ?k7 ?a8 ?l8 ?c8 ?k8 ?a9 ?l9 ?c9 ?k9 ?a10 ?l10 ?c10 ?k10 ?a11 ?l11 ?c11 ?k11 ?a12 ?l12 ?c12 ?k12 ?a13 ?l13 ?c13 ?k13 ?a14 ?l14 ?c14 ?k14 ?a15 ?l15 ?c15 ?k15 ?a16 ?l16 ?c16 ?k16 ?a17 ?l17 ?c17 ?k17 ?a18 ?l18 ?c18 ?k18 ?a19 ?l19 ?c19 ?k19 ?a20 ?l20 ?c20 ?k20 ?a21 ?l21 ?c21 ?k21 ?a22 ?l22 ?c22 ?k22 ?a23 ?l23 ?c23 ?k23 ?a24 ?l24 ?c24 ?k24 ?a25 ?l25 ?c25 ?k25 ?a26 ?l26 ?c26 ?k26 ?a27 ?l27 ?c27 ?k27 ?a28 ?l28 ?c28 ?k28 ?a29 ?l29 ?c29 ?k29 ?a30 ?l30 ?c30 ?k30 ?a31 ?l31 ?c31 ?k31 ?dl ?x0 ?x1 ?x2 ?x3 ?x4 ?x5 ?x6 ?x7 ?x8 ?q0 ?q1 ?mro ?e1 ?e2 ?e3 ?e4 ?e5 ?e6 ?e7 ?no ?me ?va ?z_isinstance ?z_int ?z_bool ?z_tuple ?z_len ?z_abs ?z_dict ?z_list ?z_range ?z_enumerate ?z_sorted ?z_max ?z_all ?z_ValueError ?g1 ?g2 ?g3 ?g4 ?qb
    (case a1 => k_is)
    (case l1 => k_is)
    (case c1 => k_is)
    (case k1 => k_is)
    (case a2 => k_is)
    (case l2 => k_is)
    (case c2 => k_is)
    (case k2 => k_is)
    (case a3 => k_is)
    (case l3 => k_is)
    (case c3 => k_is)
    (case k3 => k_is)
    (case a4 => k_is)
    (case l4 => k_is)
    (case c4 => k_is)
    (case k4 => k_is)
    (case a5 => k_is)
    (case l5 => k_is)
    (case c5 => k_is)
    (case k5 => k_is)
    (case a6 => k_is)
    (case l6 => k_is)
    (case c6 => k_is)
    (case k6 => k_is)
    (case a7 => k_is)
    (case l7 => k_is)
    (case c7 => k_is)
    (case k7 => k_is)
    (case a8 => k_is)
    (case l8 => k_is)
    (case c8 => k_is)
    (case k8 => k_is)
    (case a9 => k_is)
    (case l9 => k_is)
    (case c9 => k_is)
    (case k9 => k_is)
    (case a10 => k_is)
    (case l10 => k_is)
    (case c10 => k_is)
    (case k10 => k_is)
    (case a11 => k_is)
    (case l11 => k_is)
    (case c11 => k_is)
    (case k11 => k_is)
    (case a12 => k_is)
    (case l12 => k_is)
    (case c12 => k_is)
    (case k12 => k_is)
    (case a13 => k_is)
    (case l13 => k_is)
    (case c13 => k_is)
    (case k13 => k_is)
    (case a14 => k_is)
    (case l14 => k_is)
    (case c14 => k_is)
    (case k14 => k_is)
    (case a15 => k_is)
    (case l15 => k_is)
    (case c15 => k_is)
    (case k15 => k_is)
    (case a16 => k_is)
    (case l16 => k_is)
    (case c16 => k_is)
    (case k16 => k_is)
    (case a17 => k_is)
    (case l17 => k_is)
    (case c17 => k_is)
    (case k17 => k_is)
    (case a18 => k_is)
    (case l18 => k_is)
    (case c18 => k_is)
    (case k18 => k_is)
    (case a19 => k_is)
    (case l19 => k_is)
    (case c19 => k_is)
    (case k19 => k_is)
    (case a20 => k_is)
    (case l20 => k_is)
    (case c20 => k_is)
    (case k20 => k_is)
    (case a21 => k_is)
    (case l21 => k_is)
    (case c21 => k_is)
    (case k21 => k_is)
    (case a22 => k_is)
    (case l22 => k_is)
    (case c22 => k_is)
    (case k22 => k_is)
    (case a23 => k_is)
    (case l23 => k_is)
    (case c23 => k_is)
    (case k23 => k_is)
    (case a24 => k_is)
    (case l24 => k_is)
    (case c24 => k_is)
    (case k24 => k_is)
    (case a25 => k_is)
    (case l25 => k_is)
    (case c25 => k_is)
    (case k25 => k_is)
    (case a26 => k_is)
    (case l26 => k_is)
    (case c26 => k_is)
    (case k26 => k_is)
    (case a27 => k_is)
    (case l27 => k_is)
    (case c27 => k_is)
    (case k27 => k_is)
    (case a28 => k_is)
    (case l28 => k_is)
    (case c28 => k_is)
    (case k28 => k_is)
    (case a29 => k_is)
    (case l29 => k_is)
    (case c29 => k_is)
    (case k29 => k_is)
    (case a30 => k_is)
    (case l30 => k_is)
    (case c30 => k_is)
    (case k30 => k_is)
    (case a31 => k_is)
    (case l31 => k_is)
    (case c31 => k_is)
    (case k31 => k_is)
    (case dl => k_is)
    (case x0 => k_is)
    (case x1 => k_is)
    (case x2 => k_is)
    (case x3 => k_is)
    (case x4 => k_is)
    (case x5 => k_is)
    (case x6 => k_is)
    (case x7 => k_is)
    (case x8 => k_is)
    (case q0 => k_exc)
    (case q1 => k_exc)
    (case mro => k_is)
    (case e1 => k_is)
    (case e2 => k_is)
    (case e3 => k_is)
    (case e4 => k_is)
    (case e5 => k_is)
    (case e6 => k_is)
    (case e7 => k_is)
    (case no => kit_is)
    (case me => kit_is)
    (case va => kit_is)
    (case z_isinstance => k_is)
    (case z_int => k_is)
    (case z_bool => k_is)
    (case z_tuple => k_is)
    (case z_len => k_is)
    (case z_abs => k_is)
    (case z_dict => k_is)
    (case z_list => k_is)
    (case z_range => k_is)
    (case z_enumerate => k_is)
    (case z_sorted => k_is)
    (case z_max => k_is)
    (case z_all => k_is)
    (case z_ValueError => k_is)
    (case g1 => k_is)
    (case g2 => k_is)
    (case g3 => k_is)
    (case g4 => k_is)
    (case qb => k_exc)
#print axioms PySem.Challenge.cw_planwell_k04_sums_holds


