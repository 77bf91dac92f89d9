import PyProof.Rows.All
import Wide.All
import OpenK.AllK
import Wide.FinOn
import Lean
import PyProof.EqAt
import PyProof.EqKinds
import PyProof.TupleCall
import PySem.Challenge.RW_planwell_k17_floors_and_ways_on
-- CHANGE: your row's module here, as the last of these rows
set_option Elab.async false
set_option linter.all false
set_option maxRecDepth 100000
namespace L2
open PySem PySem.Spec PyProof.Rows
abbrev Key := Sum Int Str
def keyIs : Key -> Value -> Bool
  | .inl k, v => Value.isInt k v
  | .inr x, v => Value.isStrOf x v
def keyH (w : World) : Key -> Int
  | .inl k => hashInt k
  | .inr x => hashStr w x
theorem keyIs_shape : ∀ {k : Key} {v : Value}, keyIs k v = true -> (∃ i t, k = Sum.inl i /\ v = Value.int i t) ∨ (∃ x t, k = Sum.inr x /\ v = Value.str x t)
  | .inl i, v, h => by
    obtain ⟨t, e⟩ := Value.isInt_shape (k := i) (v := v) h
    exact .inl ⟨i, t, rfl, e⟩
  | .inr x, v, h => by
    obtain ⟨t, e⟩ := Value.isStrOf_shape (x := x) (v := v) h
    exact .inr ⟨x, t, rfl, e⟩
theorem keyIs_int (i : Int) (t : Tok) : keyIs (.inl i) (.int i t) = true := by simp [keyIs, Value.isInt]
theorem keyIs_str (x : Str) (t : Tok) : keyIs (.inr x) (.str x t) = true := by simp [keyIs, Value.isStrOf]
theorem key_ll (a b : Int) : decide ((Sum.inl a : Key) = Sum.inl b) = (a == b) := by
  by_cases e : a = b
  · subst e; simp
  · have h : ¬ (Sum.inl a : Key) = Sum.inl b := fun q => e (Sum.inl.inj q)
    rw [decide_eq_false h]
    exact (beq_eq_false_iff_ne.mpr e).symm
theorem key_rr (a b : Str) : decide ((Sum.inr a : Key) = Sum.inr b) = decide (a = b) := by
  by_cases e : a = b
  · subst e; simp
  · have h : ¬ (Sum.inr a : Key) = Sum.inr b := fun q => e (Sum.inr.inj q)
    rw [decide_eq_false h, decide_eq_false e]
theorem key_lr (a : Int) (b : Str) : decide ((Sum.inl a : Key) = Sum.inr b) = false := decide_eq_false (fun q => nomatch q)
theorem key_rl (a : Str) (b : Int) : decide ((Sum.inr a : Key) = Sum.inl b) = false := decide_eq_false (fun q => nomatch q)
def mixKind (prog : Program) (w : World) : PySem.KeyKind prog w Key where
  is := keyIs
  hash := keyH w
  inj := fun v a b ha hb => by
    rcases keyIs_shape ha with ⟨i, t, rfl, rfl⟩ | ⟨x, t, rfl, rfl⟩
    · rcases keyIs_shape hb with ⟨j, u, rfl, e⟩ | ⟨y, u, rfl, e⟩
      · injection e with e1 _; rw [e1]
      · exact nomatch e
    · rcases keyIs_shape hb with ⟨j, u, rfl, e⟩ | ⟨y, u, rfl, e⟩
      · exact nomatch e
      · injection e with e1 _; rw [e1]
  byValue := fun k v h => by
    rcases keyIs_shape h with ⟨i, t, rfl, rfl⟩ | ⟨x, t, rfl, rfl⟩ <;> rfl
  pyHash := fun hv h => by
    rcases keyIs_shape hv with ⟨i, t, rfl, rfl⟩ | ⟨x, t, rfl, rfl⟩
    · exact wpAny_pyHash_int h
    · exact wpAny_pyHash_str h
  eqBool := fun hu hv h => by
    rcases keyIs_shape hu with ⟨i, t, rfl, rfl⟩ | ⟨x, t, rfl, rfl⟩
    · rcases keyIs_shape hv with ⟨j, u, rfl, rfl⟩ | ⟨y, u, rfl, rfl⟩
      · rw [key_ll] at h; exact wpAny_eqBool_int h
      · rw [key_lr] at h; exact SeqAt.EqAt.int_str i t y u _ _ _ _ h
    · rcases keyIs_shape hv with ⟨j, u, rfl, rfl⟩ | ⟨y, u, rfl, rfl⟩
      · rw [key_rl] at h; exact SeqAt.EqAt.str_int x t j u _ _ _ _ h
      · rw [key_rr] at h; exact wpAny_eqBool_str h
  «strs» := fun k x t v h => by
    rcases keyIs_shape h with ⟨i, u, rfl, e⟩ | ⟨y, u, rfl, e⟩
    · exact nomatch e
    · injection e with e1 _
      subst e1
      cases v <;> rfl
theorem mixKind_int (prog : Program) (w : World) (i : Int) (t : Tok) : (mixKind prog w).is (.inl i) (.int i t) = true := keyIs_int i t
theorem mixKind_str (prog : Program) (w : World) (x : Str) (t : Tok) : (mixKind prog w).is (.inr x) (.str x t) = true := keyIs_str x t
end L2
namespace L2
open PySem PySem.Spec PyProof.Rows
inductive V where
  | non | bl (b : Bool) | int (i : Int) | str (x : Str) | byt (b : Array UInt8) | flt (b : UInt64) | ref (a : Addr) | ty (n : String)
  deriving DecidableEq
def RelV : V -> Value -> Prop
  | .non, u => u = Value.none
  | .bl b, u => u = Value.bool b
  | .int i, u => ∃ t, u = Value.int i t
  | .str x, u => ∃ t, u = Value.str x t
  | .byt b, u => ∃ t, u = Value.bytes b t
  | .flt b, u => ∃ t, u = Value.float b t
  | .ref a, u => u = Value.ref a
  | .ty n, u => u = Value.type n
abbrev Vals : List V -> List Value -> Prop := Paired RelV
theorem Vals.length {xs : List V} {us : List Value} (r : Vals xs us) : xs.length = us.length := Paired.length r
theorem Vals.get : ∀ {xs : List V} {us : List Value} {i : Nat} {x : V}, Vals xs us -> xs[i]? = some x -> ∃ u, us[i]? = some u /\ RelV x u
  | _, _, _, _, .nil, e => by simp at e
  | _, _, 0, _, .cons r _, e => by simp at e; subst e; exact ⟨_, rfl, r⟩
  | _, _, i + 1, x, .cons _ t, e => by
    obtain ⟨u, h1, h2⟩ := Vals.get (i := i) (x := x) t (by simpa using e)
    exact ⟨u, by simpa using h1, h2⟩
theorem Vals.set {x : V} {u : Value} (r : RelV x u) : ∀ {xs : List V} {us : List Value} (i : Nat), Vals xs us -> Vals (xs.set i x) (us.set i u)
  | _, _, _, .nil => .nil
  | _, _, 0, .cons _ t => .cons r t
  | _, _, i + 1, .cons q t => .cons q (Vals.set r i t)
theorem Vals.append : ∀ {xs ys : List V} {us ws : List Value}, Vals xs us -> Vals ys ws -> Vals (xs ++ ys) (us ++ ws)
  | _, _, _, _, .nil, s => s
  | _, _, _, _, .cons r t, s => .cons r (Vals.append t s)
theorem Vals.take : ∀ {xs : List V} {us : List Value} (n : Nat), Vals xs us -> Vals (xs.take n) (us.take n)
  | _, _, 0, _ => .nil
  | _, _, _ + 1, .nil => .nil
  | _, _, n + 1, .cons r t => .cons r (Vals.take n t)
theorem Vals.drop : ∀ {xs : List V} {us : List Value} (n : Nat), Vals xs us -> Vals (xs.drop n) (us.drop n)
  | _, _, 0, r => r
  | _, _, _ + 1, .nil => .nil
  | _, _, n + 1, .cons _ t => Vals.drop n t
def RelO : Option V -> Option Value -> Prop
  | some v, some u => RelV v u
  | none, none => True
  | _, _ => False
def KV {κ : Type} : List (κ × V) -> List (κ × Value) -> Prop := Paired fun (p : κ × V) (q : κ × Value) => p.1 = q.1 /\ RelV p.2 q.2
def kV : Key -> V
  | .inl i => .int i
  | .inr x => .str x
def IsTupN (h : Heap) (a : Addr) (items : Array Value) : Prop := ∃ o, h.get? a = some o /\ (o.cls = .type "tuple" /\ o.dict = none) /\ ∃ n, o.data = .seq items n
theorem IsTupN.tup {h : Heap} {a : Addr} {items : Array Value} (x : IsTupN h a items) : IsTup h a items := let ⟨o, e, c, r⟩ := x; ⟨o, e, c.1, r⟩
theorem IsTupN.lt {h : Heap} {a : Addr} {items : Array Value} (x : IsTupN h a items) : a < h.objs.size := x.tup.lt
theorem IsTupN.new (h : Heap) (items : Array Value) : IsTupN (h.push { cls := .type "tuple", data := .seq items }) h.objs.size items := ⟨_, Heap.get?_push_size _ rfl, ⟨rfl, rfl⟩, _, rfl⟩
inductive HO where
  /-- a list -/
  | lst (xs : List V)
  /-- a tuple (never changes) -/
  | tup (xs : List V)
  /-- a dict whose keys are ints and texts; one whose keys are tuples of ints and texts (the empty one is both) -/
  | dK (kvs : List (Key × V)) | dT (kvs : List (List Key × V))
  /-- a set of ints: its members, its size -/
  | set (S : Int -> Bool) (n : Nat)
  /-- an instance of the class at C, its dict at dx, its attributes -/
  | ins (C dx : Addr) (fs : List (Str × V))
  /-- the dict of the instance at x -/
  | own (x : Addr)
  /-- the dict of an exception -/
  | xd (fs : List (Str × V))
  /-- a bound method, f of x -/
  | met (f x : Addr)
  /-- a range object lo, lo + 1, .. below hi -/
  | rng (lo hi : Int)
  /-- a thing that is known to the object (the script; a dict while a loop walks it): read, never written while it is so -/
  | frz (o : Obj) (u : HO)
  /-- a code object's table -/
  | tbl (ps : Array Value)
  /-- any other thing, by what is true of its one object (a def of one's own: SetO a S n := HO.ext fun h => ..) -/
  | ext (φ : Heap -> Prop)
abbrev Hp := Addr -> Option HO
def upd (H : Hp) (a : Addr) (o : HO) : Hp := fun b => if b = a then some o else H b
theorem upd_same {H : Hp} {a : Addr} {o : HO} : upd H a o a = some o := by unfold upd; rw [if_pos rfl]
theorem upd_ne {H : Hp} {a b : Addr} {o : HO} (h : b ≠ a) : upd H a o b = H b := by unfold upd; rw [if_neg h]
theorem upd_upd {H : Hp} {a : Addr} {o u : HO} : upd (upd H a o) a u = upd H a u := by
  funext b; unfold upd; split <;> rfl
theorem ne_of {H : Hp} {a b : Addr} {o u : HO} (h : H a = some o) (h' : H b = some u) (d : o ≠ u) : a ≠ b := by
  intro e; subst e; rw [h] at h'; exact d (Option.some.inj h')
theorem ne_of_none {H : Hp} {a b : Addr} {o : HO} (h : H a = some o) (h' : H b = none) : a ≠ b := by
  intro e; subst e; rw [h] at h'; cases h'
section
variable (P : Program) (w : World)
def ObjOk (H : Hp) (h : Heap) (a : Addr) : HO -> Prop
  | .lst xs => xs.length <= sizeLine /\ ∃ (its : List Value) (n : Nat), Vals xs its /\ h.get? a = some { cls := .type "list", data := .seq its.toArray n }
  | .tup xs => xs.length <= sizeLine /\ ∃ its : List Value, Vals xs its /\ IsTupN h a its.toArray
  | .dK kvs => kvs.length <= sizeLine /\ (a == sysModules) = false /\ ∃ vs, KV kvs vs /\ h.DictOf (mixKind P w) a vs
  | .dT kvs => kvs.length <= sizeLine /\ (a == sysModules) = false /\ ∃ xs : List (List Key × Addr × Value),
      Paired (fun (p : List Key × V) (q : List Key × Addr × Value) => p.1 = q.1 /\ H q.2.1 = some (.tup (p.1.map kV)) /\ RelV p.2 q.2.2) kvs xs /\
      ∃ o es ep, h.get? a = some o /\ o.ExactDict /\ o.data = .dict es ep /\ es.toList = xs.map (entryOfKey (tupleKind (mixKind P w))) /\ (xs.map (·.1)).Nodup
  | .set S n => h.SetOf (intKind P w) a S n
  | .ins C dx fs => H dx = some (.own a) /\ fs.length <= 1000 /\ dx ≠ a /\ h.get? a = some (PySem.W.instObj C dx) /\
      ∃ mA, h.Ns1 dx mA /\ (∀ f, RelO (fs.lookup f) (mA f)) /\ PySem.Within mA (fs.map (·.1))
  | .own _ => ∃ o, h.get? a = some o
  | .xd fs => ∃ mA, h.Ns1 a mA /\ ∀ f, RelO (fs.lookup f) (mA f)
  | .rng lo hi => ∃ t u v, h.get? a = some { cls := .type "range", data := .fields #[.int lo t, .int hi u, .int 1 v] }
  | .frz o u => h.get? a = some o /\ ObjOk H h a u
  | .tbl ps => h.get? a = some { cls := .none, data := .fields ps }
  | .met f x => h.get? a = some (PySem.W.methodObj (.ref f) (.ref x))
  | .ext φ => φ h /\ (∃ o, h.get? a = some o) /\ ∀ h1 h2 : Heap, φ h1 -> (∀ o, h1.get? a = some o -> h2.get? a = some o) -> φ h2
def HOk (H : Hp) (h : Heap) : Prop := ∀ a o, H a = some o -> ObjOk P w H h a o
end
section
variable {P : Program} {w : World} {H H' : Hp} {h h' : Heap} {a : Addr} {o : HO}
theorem ObjOk.lt (x : ObjOk P w H h a o) : a < h.objs.size := by
  cases o with
  | lst xs => obtain ⟨_, _, _, _, e⟩ := x; exact Heap.lt_size e
  | tup xs => obtain ⟨_, _, _, p⟩ := x; exact p.lt
  | dK kvs => obtain ⟨_, _, _, _, o, _, _, e, _⟩ := x; exact Heap.lt_size e
  | dT kvs => obtain ⟨_, _, _, _, o, _, _, e, _⟩ := x; exact Heap.lt_size e
  | set S n => obtain ⟨o, _, _, _, e, _⟩ := x; exact Heap.lt_size e
  | ins C dx fs => obtain ⟨_, _, _, e, _⟩ := x; exact Heap.lt_size e
  | own y => obtain ⟨_, e⟩ := x; exact Heap.lt_size e
  | xd fs => obtain ⟨_, ⟨_, _, _, e, _⟩, _⟩ := x; exact Heap.lt_size e
  | rng lo hi => obtain ⟨_, _, _, e⟩ := x; exact Heap.lt_size e
  | frz ob u => obtain ⟨e, _⟩ := x; exact Heap.lt_size e
  | tbl ps => exact Heap.lt_size (show h.get? a = some _ from x)
  | met f y => exact Heap.lt_size (show h.get? a = some _ from x)
  | ext φ => obtain ⟨_, ⟨_, e⟩, _⟩ := x; exact Heap.lt_size e
theorem Paired.mapP {α β : Type} {F G : α -> β -> Prop} : ∀ {l₁ : List α} {l₂ : List β}, Paired F l₁ l₂ -> (∀ a b, F a b -> G a b) -> Paired G l₁ l₂
  | _, _, .nil, _ => .nil
  | _, _, .cons r t, f => .cons (f _ _ r) (Paired.mapP t f)
theorem ObjOk.stay (x : ObjOk P w H h a o) (k : ∀ b u, (b = a ∨ H b = some (.own a)) -> h.get? b = some u -> h'.get? b = some u)
    (ho : ∀ b, H b = some (.own a) -> H' b = some (.own a)) (ht : ∀ b xs, H b = some (.tup xs) -> H' b = some (.tup xs)) : ObjOk P w H' h' a o := by
  induction o with
  | lst xs => obtain ⟨z, its, n, r, e⟩ := x; exact ⟨z, its, n, r, k _ _ (.inl rfl) e⟩
  | tup xs => obtain ⟨z, its, r, ob, e, c⟩ := x; exact ⟨z, its, r, ob, k _ _ (.inl rfl) e, c⟩
  | dK kvs => obtain ⟨z, y, vs, r, ob, es, ep, e, c⟩ := x; exact ⟨z, y, vs, r, ob, es, ep, k _ _ (.inl rfl) e, c⟩
  | dT kvs =>
    obtain ⟨z, y, xs, r, ob, es, ep, e, c⟩ := x
    exact ⟨z, y, xs, Paired.mapP r fun p q z => ⟨z.1, ht _ _ z.2.1, z.2.2⟩, ob, es, ep, k _ _ (.inl rfl) e, c⟩
  | set S n => obtain ⟨ob, es, ep, t, e, c⟩ := x; exact ⟨ob, es, ep, t, k _ _ (.inl rfl) e, c⟩
  | ins C dx fs =>
    obtain ⟨d, z, ne, e, mA, ⟨od, es, ep, e2, c⟩, r⟩ := x
    exact ⟨ho _ d, z, ne, k _ _ (.inl rfl) e, mA, ⟨od, es, ep, k _ _ (.inr d) e2, c⟩, r⟩
  | own y => obtain ⟨ob, e⟩ := x; exact ⟨ob, k _ _ (.inl rfl) e⟩
  | xd fs => obtain ⟨mA, ⟨od, es, ep, e, c⟩, r⟩ := x; exact ⟨mA, ⟨od, es, ep, k _ _ (.inl rfl) e, c⟩, r⟩
  | rng lo hi => obtain ⟨t, u, v, e⟩ := x; exact ⟨t, u, v, k _ _ (.inl rfl) e⟩
  | frz ob u ih => obtain ⟨e, q⟩ := x; exact ⟨k _ _ (.inl rfl) e, ih q⟩
  | tbl ps =>
    have e : h.get? a = some { cls := .none, data := .fields ps } := x
    show h'.get? a = some { cls := .none, data := .fields ps }
    exact k a _ (.inl rfl) e
  | met f y =>
    have e : h.get? a = some (PySem.W.methodObj (.ref f) (.ref y)) := x
    show h'.get? a = some (PySem.W.methodObj (.ref f) (.ref y))
    exact k a _ (.inl rfl) e
  | ext φ => obtain ⟨p, ⟨o, e⟩, st⟩ := x; exact ⟨st _ _ p fun o q => k _ _ (.inl rfl) q, ⟨o, k _ _ (.inl rfl) e⟩, st⟩
theorem HOk.lt (x : HOk P w H h) (e : H a = some o) : a < h.objs.size := (x a o e).lt
theorem HOk.fresh (x : HOk P w H h) (e : h.objs.size <= a) : H a = none := by
  cases q : H a with
  | none => rfl
  | some u => exact absurd (Nat.lt_of_lt_of_le (x.lt q) e) (Nat.lt_irrefl _)
theorem HOk.kept (x : HOk P w H h) (k : ∀ b u, h.get? b = some u -> h'.get? b = some u) : HOk P w H h' := fun a o e =>
  (x a o e).stay (fun b u _ q => k b u q) (fun _ q => q) fun _ _ q => q
theorem HOk.laid (x : HOk P w H h) (k : ∀ b u, h.get? b = some u -> h'.get? b = some u) (hp : h.objs.size <= a) (new : ObjOk P w (upd H a o) h' a o) : HOk P w (upd H a o) h' := fun b u e => by
  have hn := x.fresh hp
  by_cases hb : b = a
  · subst hb; rw [upd_same] at e; cases e; exact new
  · rw [upd_ne hb] at e
    exact (x b u e).stay (fun c v _ q => k c v q) (fun c q => by rw [upd_ne (ne_of_none q hn)]; exact q) fun c xs q => by rw [upd_ne (ne_of_none q hn)]; exact q
end
def Rd (H : Hp) (a : Addr) (u : HO) : Prop := H a = some u ∨ ∃ o, H a = some (.frz o u)
theorem Rd.ok {P : Program} {w : World} {H : Hp} {h : Heap} {a : Addr} {u : HO} (r : Rd H a u) (x : HOk P w H h) : ObjOk P w H h a u := by
  rcases r with r | ⟨o, r⟩
  · exact x a u r
  · obtain ⟨_, q⟩ := x a _ r
    exact q
def Mut : Option HO -> Prop
  | some (.lst _) => True
  | some (.dK _) => True
  | some (.dT _) => True
  | some (.set _ _) => True
  | some (.ins _ _ _) => True
  | some (.ext _) => True
  | _ => False
section
variable {P : Program} {w : World} {H : Hp} {h h' : Heap} {x e : Addr} {o' : HO}
theorem HOk.write (ok : HOk P w H h) (mu : Mut (H x)) (he : e = x ∨ H e = some (.own x)) (k : ∀ b u, b ≠ e -> h.get? b = some u -> h'.get? b = some u) (heo : ∃ u, h'.get? e = some u)
    (new : ObjOk P w (upd H x o') h' x o') : HOk P w (upd H x o') h' := fun b u q => by
  have nown : ∀ c y, H c = some (.own y) -> c ≠ x := fun c y r z => by subst z; rw [r] at mu; exact mu
  have ntup : ∀ c xs, H c = some (.tup xs) -> c ≠ x := fun c xs r z => by subst z; rw [r] at mu; exact mu
  by_cases hb : b = x
  · subst hb; rw [upd_same] at q; cases q; exact new
  · rw [upd_ne hb] at q
    by_cases hbe : b = e
    · have q' : H b = some (.own x) := by
        rcases he with z | z
        · exact absurd (hbe.trans z) hb
        · rw [hbe]; exact z
      rw [q] at q'; cases q'
      obtain ⟨v, hv⟩ := heo
      exact ⟨v, by rw [hbe]; exact hv⟩
    · refine (ok b u q).stay (fun c v hc r => k c v ?_ r) (fun c r => by rw [upd_ne (nown c b r)]; exact r) fun c xs r => by rw [upd_ne (ntup c xs r)]; exact r
      rcases hc with rfl | hc
      · exact hbe
      · rintro rfl
        rcases he with z | z
        · exact nown c b hc z
        · rw [hc] at z; cases z; exact hb rfl
end
structure Un (fs ex : List Addr) (H H' : Hp) (h h' : Heap) : Prop where
  keep : ∀ b o, h.get? b = some o -> H b = none -> b ∉ fs -> b ∉ ex -> h'.get? b = some o
  slot : ∀ b o, h.get? b = some o -> H b = none -> b ∈ fs -> b ∉ ex -> ∃ sl, h'.get? b = some { o with slots := sl }
  free : ∀ b o, h.get? b = some o -> H b = none -> b ∉ ex -> H' b = none
  there : ∀ b o, h.get? b = some o -> b ∉ ex -> ∃ o', h'.get? b = some o'
  tups : ∀ b xs, H b = some (.tup xs) -> H' b = some (.tup xs)
  frzs : ∀ b o u, H b = some (.frz o u) -> H' b = some (.frz o u)
  tbls : ∀ b ps, H b = some (.tbl ps) -> ∃ more, H' b = some (.tbl (ps ++ more))
section
variable {fs fs' ex ex' : List Addr} {H H1 H2 : Hp} {h h1 h2 h' : Heap} {a x e : Addr} {o : HO}
theorem Un.any (u : Un fs ex H H1 h h1) {b : Addr} {ob : Obj} (q : h.get? b = some ob) (n : H b = none) (hx : b ∉ ex) : ∃ sl, h1.get? b = some { ob with slots := sl } := by
  by_cases hb : b ∈ fs
  · exact u.slot b ob q n hb hx
  · exact ⟨ob.slots, u.keep b ob q n hb hx⟩
theorem Un.kept (k : ∀ b u, h.get? b = some u -> h'.get? b = some u) : Un fs ex H H h h' :=
  ⟨fun b ob q _ _ _ => k b ob q, fun b ob q _ _ _ => ⟨ob.slots, k b ob q⟩, fun _ _ _ n _ => n, fun b ob q _ => ⟨ob, k b ob q⟩, fun _ _ q => q, fun _ _ _ q => q, fun _ ps q => ⟨#[], by rw [q]; simp⟩⟩
theorem Un.refl : Un fs ex H H h h := Un.kept fun _ _ q => q
theorem Un.laid (k : ∀ b u, h.get? b = some u -> h'.get? b = some u) (hp : h.objs.size <= a) (hn : H a = none) : Un fs ex H (upd H a o) h h' where
  keep := fun b u q _ _ _ => k b u q
  slot := fun b u q _ _ _ => ⟨u.slots, k b u q⟩
  free := fun b u q n _ => by rw [upd_ne (Nat.ne_of_lt (Nat.lt_of_lt_of_le (Heap.lt_size q) hp))]; exact n
  there := fun b u q _ => ⟨u, k b u q⟩
  tups := fun b xs q => by rw [upd_ne (ne_of_none q hn)]; exact q
  frzs := fun b u xs q => by rw [upd_ne (ne_of_none q hn)]; exact q
  tbls := fun b ps q => ⟨#[], by rw [upd_ne (ne_of_none q hn), q]; simp⟩
theorem Un.write (mu : Mut (H x)) (he : e = x ∨ H e = some (.own x)) (k : ∀ b u, b ≠ e -> h.get? b = some u -> h'.get? b = some u) (heo : ∃ u, h'.get? e = some u) : Un fs ex H (upd H x o) h h' := by
  have hx : ∀ b, H b = none -> b ≠ x := fun b n z => by subst z; rw [n] at mu; exact mu
  have hb : ∀ b, H b = none -> b ≠ e := fun b n z => by
    subst z
    rcases he with r | r
    · exact hx b n r
    · rw [n] at r; cases r
  have hm : ∀ b u, H b = some u -> ¬ Mut (some u) -> b ≠ x := fun b u q nm z => by subst z; rw [q] at mu; exact nm mu
  refine ⟨fun b u q n _ _ => k b u (hb b n) q, fun b u q n _ _ => ⟨u.slots, k b u (hb b n) q⟩, fun b u q n _ => by rw [upd_ne (hx b n)]; exact n, fun b u q _ => ?_,
    fun b xs q => by rw [upd_ne (hm b _ q fun z => z)]; exact q, fun b u xs q => by rw [upd_ne (hm b _ q fun z => z)]; exact q, fun b ps q => ⟨#[], by rw [upd_ne (hm b _ q fun z => z), q]; simp⟩⟩
  by_cases hbe : b = e
  · subst hbe; exact heo
  · exact ⟨u, k b u hbe q⟩
end
def trk (h : Heap) (H : Hp) : List Addr := (List.range h.objs.size).filter fun a => (H a).isSome
def hidT (h : Heap) (H : Hp) : Heap := PySem.W.hideAll h (trk h H)
theorem hidT_size (h : Heap) (H : Hp) : (hidT h H).objs.size = h.objs.size := PySem.W.hideAll_size _ _
theorem hidT_get {h : Heap} {H : Hp} {b : Addr} {o : Obj} (e : h.get? b = some o) (n : H b = none) : (hidT h H).get? b = some o :=
  PySem.W.hideAll_get _ e fun hm => by
    have q : (H b).isSome = true := (List.mem_filter.mp hm).2
    rw [n] at q; simp at q
theorem of_hidT {h : Heap} {H : Hp} {b : Addr} {o : Obj} (e : (hidT h H).get? b = some o) : h.get? b = some o /\ H b = none := by
  have e' : h.get? b = some o := PySem.W.of_hideAll (trk h H) e
  refine ⟨e', ?_⟩
  cases q : H b with
  | none => rfl
  | some x =>
    have hm : b ∈ trk h H := List.mem_filter.mpr ⟨List.mem_range.mpr (Heap.lt_size e'), by simp [q]⟩
    have z : (hidT h H).get? b = none := PySem.W.hideAll_none (trk h H) hm
    rw [z] at e; cases e
end L2
namespace L2
open PySem PySem.Spec PyProof.Rows
structure Mod (K : PySem.W.Frag) (mg : Str -> Option Value) (base : Heap) : Prop where
  kin : K.In base
  glob : base.Ns mainGlobals mg
  blt : ∃ mb, base.Ns builtinsNs mb /\ ∀ x : Str, x ≠ "__name__" -> mb x = bootBuiltins x
  nolimit : base.NoLimit
structure Cx where
  prog : Program
  w : World
  K : PySem.W.Frag
  mg : Str -> Option Value
  base : Heap
  A : Around
  N : List Str
  s₀ : Shared
  H₀ : Hp
  env : Env
  outer : List Env
  stack : List Env
  ex : List Addr
  fn : Str -> Bool
  calm : Bool
  pn : List (Addr × Obj)
  xe : Value -> Shared -> Prop
def frs (l : List Env) : List Addr := l.filterMap (·.frame)
abbrev Cx.fs (X : Cx) : List Addr := frs X.outer
def Vis (sc : Scope) (x : Str) : Prop := sc.names.lookup x = some .local ∨ sc.names.lookup x = some .cell ∨ sc.names.lookup x = some .free
def Loc (sc : Scope) (x : Str) : Prop := sc.names.lookup x = some .local ∨ sc.names.lookup x = some .cell
def Look (env : Env) (h : Heap) (m : Str -> Option Value) (x : Str) (u : Value) : Prop :=
  (env.kindOf x = some .local /\ m x = some u) ∨ ((env.kindOf x = some .cell ∨ env.kindOf x = some .free) /\ ∃ c, env.cells.lookup x = some c /\ h.IsCell c (some u))
structure Cx.Ok (X : Cx) : Prop where
  mod : Mod X.K X.mg X.base
  kind : X.env.scope.kind = .function
  glob : X.env.globals = mainGlobals
  blt : X.env.builtins = builtinsNs
  above : X.s₀.heap.objs.size <= X.env.locals
  inj : ∀ x y c, X.env.cells.lookup x = some c -> X.env.cells.lookup y = some c -> x = y
  has : ∀ x, (X.env.kindOf x = some .cell ∨ X.env.kindOf x = some .free) -> ∃ c, X.env.cells.lookup x = some c
  cab : ∀ x c, X.fn x = true -> X.env.cells.lookup x = some c -> X.s₀.heap.objs.size <= c
  hd : X.calm = true -> X.A.handled = none
  frames : X.A.frames = some X.stack
  stk : X.stack = X.outer ∨ (X.stack = X.env :: X.outer /\ X.env.frame = some X.env.locals)
  exf : ∀ b ∈ X.ex, b ≠ X.env.locals /\ ∀ x c, X.env.cells.lookup x = some c -> c ≠ b
  bs : ∀ b o, X.base.get? b = some o -> X.s₀.heap.get? b = some o /\ X.H₀ b = none
  bsz : X.base.objs.size <= X.s₀.heap.objs.size
  noex : ∀ b o, X.base.get? b = some o -> b ∉ X.ex
  exfs : ∀ b ∈ X.ex, b ∉ X.fs
  funs : X.s₀.heap.FunFrames X.base X.outer
  frf : ∀ b ∈ X.fs, X.H₀ b = none
structure Inv (X : Cx) (pins : List (Addr × Obj)) (σ : List (Option V)) (H : Hp) (s : Shared) : Prop where
  ok : X.Ok
  os : s.os = X.s₀.os
  bare : AllBare s.gens
  base : Un X.fs X.ex X.H₀ H X.s₀.heap s.heap
  loc : ∃ m, s.heap.Ns X.env.locals m /\ ∀ (i : Nat) (x : Str) (v : V), X.N[i]? = some x -> σ[i]? = some (some v) -> Vis X.env.scope x -> ∃ u, RelV v u /\ Look X.env s.heap m x u
  cell : ∀ x c, X.env.cells.lookup x = some c -> ∃ v, s.heap.IsCell c v
  free : H X.env.locals = none
  freeC : ∀ x c, X.env.cells.lookup x = some c -> H c = none
  pin : ∀ p ∈ X.pn ++ pins, s.heap.get? p.1 = some p.2 /\ H p.1 = none /\ p.1 ≠ X.env.locals /\ p.1 ∉ X.fs /\ ∀ v, p.2.data ≠ .cell v
  hok : HOk X.prog X.w H s.heap
  len : σ.length = X.N.length
section
variable {X : Cx} {pins : List (Addr × Obj)} {σ : List (Option V)} {H H' : Hp} {s : Shared} {h' : Heap}
theorem Cx.Ok.nofr (ok : X.Ok) {b : Addr} {o : Obj} (e : X.base.get? b = some o) : b ∉ X.fs := fun hb => by
  have := (ok.funs.mem hb).1
  rw [e] at this; cases this
theorem Inv.bs (I : Inv X pins σ H s) : ∀ b o, X.base.get? b = some o -> s.heap.get? b = some o /\ H b = none := fun b o e =>
  ⟨I.base.keep b o (I.ok.bs b o e).1 (I.ok.bs b o e).2 (I.ok.nofr e) (I.ok.noex b o e), I.base.free b o (I.ok.bs b o e).1 (I.ok.bs b o e).2 (I.ok.noex b o e)⟩
theorem Inv.bk (I : Inv X pins σ H s) : ∀ b o, X.base.get? b = some o -> s.heap.get? b = some o := fun b o e => (I.bs b o e).1
theorem Inv.mod (I : Inv X pins σ H s) : Mod X.K X.mg X.base := I.ok.mod
theorem Inv.kIn (I : Inv X pins σ H s) : X.K.In s.heap := I.ok.mod.kin.keeps I.bk
theorem Inv.lt (I : Inv X pins σ H s) : X.env.locals < s.heap.objs.size := let ⟨_, hn, _⟩ := I.loc; hn.lt
theorem Inv.sz (I : Inv X pins σ H s) : X.s₀.heap.objs.size <= s.heap.objs.size := Nat.le_trans I.ok.above (Nat.le_of_lt I.lt)
theorem Inv.nofs (I : Inv X pins σ H s) {a : Addr} (h : s.heap.objs.size <= a) : a ∉ X.fs := fun hb => by
  obtain ⟨_, o, ho, _⟩ := I.ok.funs.mem hb
  exact absurd (Nat.lt_of_lt_of_le (Heap.lt_size ho) (Nat.le_trans I.sz h)) (Nat.lt_irrefl _)
theorem Inv.cne (I : Inv X pins σ H s) : ∀ x c, X.env.cells.lookup x = some c -> c ≠ X.env.locals := fun x c e z => by
  obtain ⟨v, o, ho, hd⟩ := I.cell x c e
  obtain ⟨m, ⟨o', es, ep, ho', hd', _⟩, _⟩ := I.loc
  rw [z, ho'] at ho; cases ho; rw [hd'] at hd; cases hd
theorem Inv.funs (I : Inv X pins σ H s) : s.heap.FunFrames X.base X.outer := by
  have all : ∀ (l : List Env), (∀ b ∈ frs l, b ∈ X.fs) -> X.s₀.heap.FunFrames X.base l -> s.heap.FunFrames X.base l := by
    intro l
    induction l with
    | nil => intro _ _; trivial
    | cons env r ih =>
      intro hs hl
      obtain ⟨hk, ⟨L, o, hf, hn, ho, hd⟩, hr⟩ := hl
      have hL : L ∈ X.fs := hs L (by unfold frs; rw [List.filterMap_cons, hf]; exact List.mem_cons_self)
      obtain ⟨sl, e⟩ := I.base.slot L o ho (I.ok.frf L hL) hL fun z => I.ok.exfs L z hL
      exact ⟨hk, ⟨L, _, hf, hn, e, hd⟩, ih (fun b hb => hs b (by unfold frs; rw [List.filterMap_cons, hf]; exact List.mem_cons_of_mem _ hb)) hr⟩
  exact all X.outer (fun _ hb => hb) I.ok.funs
theorem Inv.stack (I : Inv X pins σ H s) : s.heap.FunFrames X.base X.stack := by
  rcases I.ok.stk with e | ⟨e, hf⟩
  · rw [e]; exact I.funs
  · rw [e]
    obtain ⟨m, hn, _⟩ := I.loc
    refine .cons (by rw [I.ok.kind]; decide) hf hn ?_ I.funs
    exact Heap.get?_none_of_le (Nat.le_trans I.ok.bsz I.ok.above)
theorem Inv.stkSub (I : Inv X pins σ H s) : ∀ b ∈ frs X.stack, b ∈ X.env.locals :: X.fs := fun b hb => by
  rcases I.ok.stk with e | ⟨e, hf⟩
  · rw [e] at hb; exact List.mem_cons_of_mem _ hb
  · rw [e] at hb
    unfold frs at hb
    rw [List.filterMap_cons, hf] at hb
    exact hb
theorem Inv.stkFree (I : Inv X pins σ H s) : ∀ b ∈ frs X.stack, H b = none := fun b hb => by
  rcases List.mem_cons.mp (I.stkSub b hb) with e | hb
  · rw [e]; exact I.free
  · obtain ⟨_, o, ho, _⟩ := I.ok.funs.mem hb
    exact I.base.free b o ho (I.ok.frf b hb) fun z => I.ok.exfs b z hb
theorem Inv.step {g' : Array GenState} {t' : Nat} {d' : Drawn} {ch : List Addr} (I : Inv X pins σ H s)
    (hch : ∀ b ∈ ch, (b ∈ X.ex ∨ X.s₀.heap.objs.size <= b) /\ b ≠ X.env.locals /\ (∀ x c, X.env.cells.lookup x = some c -> c ≠ b) /\ ∀ p ∈ X.pn ++ pins, p.1 ≠ b)
    (keep : ∀ b o, b ≠ X.env.locals -> b ∉ X.fs -> b ∉ ch -> s.heap.get? b = some o -> H b = none -> h'.get? b = some o)
    (slot : ∀ b o, b ≠ X.env.locals -> b ∈ X.fs -> b ∉ ch -> s.heap.get? b = some o -> H b = none -> ∃ sl, h'.get? b = some { o with slots := sl }) (free : ∀ b o, b ∉ ch -> s.heap.get? b = some o -> H b = none -> H' b = none)
    (there : ∀ b o, b ∉ ch -> s.heap.get? b = some o -> ∃ o', h'.get? b = some o')
    (tups : ∀ b xs, H b = some (.tup xs) -> H' b = some (.tup xs)) (frzs : ∀ b o u, H b = some (.frz o u) -> H' b = some (.frz o u)) (tbls : ∀ b ps, H b = some (.tbl ps) -> ∃ more, H' b = some (.tbl (ps ++ more)))
    (ns : ∀ m, s.heap.Ns X.env.locals m -> h'.Ns X.env.locals m) (hok : HOk X.prog X.w H' h') (hg : AllBare g') :
    Inv X pins σ H' { s with heap := h', gens := g', drawn := d', toks := t' } := by
  have neL : ∀ b o, X.s₀.heap.get? b = some o -> b ≠ X.env.locals := fun b o e => Nat.ne_of_lt (Nat.lt_of_lt_of_le (Heap.lt_size e) I.ok.above)
  have neC : ∀ b o, X.s₀.heap.get? b = some o -> b ∉ X.ex -> b ∉ ch := fun b o e hx hb => by
    rcases (hch b hb).1 with z | z
    · exact hx z
    · exact absurd (Nat.lt_of_lt_of_le (Heap.lt_size e) z) (Nat.lt_irrefl _)
  have cellK : ∀ x c, X.env.cells.lookup x = some c -> ∀ v, s.heap.IsCell c v -> h'.IsCell c v := fun x c e v ⟨o, ho, hd⟩ => by
    have nch : c ∉ ch := fun z => (hch c z).2.2.1 x c e rfl
    by_cases hc : c ∈ X.fs
    · obtain ⟨sl, q⟩ := slot c o (I.cne x c e) hc nch ho (I.freeC x c e)
      exact ⟨_, q, hd⟩
    · exact ⟨o, keep c o (I.cne x c e) hc nch ho (I.freeC x c e), hd⟩
  refine ⟨I.ok, I.os, hg, ⟨fun b o e n hb hx => ?_, fun b o e n hb hx => ?_, fun b o e n hx => ?_, fun b o e hx => ?_, fun b xs e => tups b xs (I.base.tups b xs e), fun b o xs e => frzs b o xs (I.base.frzs b o xs e), fun b ps e => ?_⟩, ?_, fun x c e => ?_, ?_, fun x c e => ?_, fun p hp => ?_, hok, I.len⟩
  · exact keep b o (neL b o e) hb (neC b o e hx) (I.base.keep b o e n hb hx) (I.base.free b o e n hx)
  · obtain ⟨sl, e1⟩ := I.base.slot b o e n hb hx
    obtain ⟨sl', e2⟩ := slot b _ (neL b o e) hb (neC b o e hx) e1 (I.base.free b o e n hx)
    exact ⟨sl', e2⟩
  · obtain ⟨o', e1⟩ := I.base.there b o e hx
    exact free b o' (neC b o e hx) e1 (I.base.free b o e n hx)
  · obtain ⟨o', e1⟩ := I.base.there b o e hx
    exact there b o' (neC b o e hx) e1
  · obtain ⟨m1, e1⟩ := I.base.tbls b ps e
    obtain ⟨m2, e2⟩ := tbls b _ e1
    exact ⟨m1 ++ m2, by rw [e2, Array.append_assoc]⟩
  · obtain ⟨m, hn, hl⟩ := I.loc
    refine ⟨m, ns m hn, fun i x v e1 e2 e3 => ?_⟩
    obtain ⟨u, r, l⟩ := hl i x v e1 e2 e3
    refine ⟨u, r, ?_⟩
    rcases l with l | ⟨k, c, e, z⟩
    · exact .inl l
    · exact .inr ⟨k, c, e, cellK x c e _ z⟩
  · obtain ⟨v, z⟩ := I.cell x c e
    exact ⟨v, cellK x c e v z⟩
  · obtain ⟨m, ⟨o, _, _, ho, _⟩, _⟩ := I.loc
    exact free _ o (fun z => (hch _ z).2.1 rfl) ho I.free
  · obtain ⟨v, o, ho, hd⟩ := I.cell x c e
    exact free c o (fun z => (hch c z).2.2.1 x c e rfl) ho (I.freeC x c e)
  · obtain ⟨e, n, ne, nf, d⟩ := I.pin p hp
    have nch : p.1 ∉ ch := fun z => (hch p.1 z).2.2.2 p hp rfl
    exact ⟨keep p.1 p.2 ne nf nch e n, free p.1 p.2 nch e n, ne, nf, d⟩
theorem Inv.un {t' : Nat} (I : Inv X pins σ H s) (u : Un X.fs [] H H' s.heap h') (hok : HOk X.prog X.w H' h') : Inv X pins σ H' { s with heap := h', toks := t' } := by
  obtain ⟨m, ⟨o, es, ep, ho, r⟩, _⟩ := id I.loc
  obtain ⟨sl, hL⟩ := u.any ho I.free (by simp)
  exact I.step (g' := s.gens) (d' := s.drawn) (ch := []) (fun _ z => nomatch z) (fun b o _ hb _ e n => u.keep b o e n hb (by simp)) (fun b o _ hb _ e n => u.slot b o e n hb (by simp)) (fun b o _ e n => u.free b o e n (by simp)) (fun b o _ e => u.there b o e (by simp)) u.tups u.frzs u.tbls (fun m' hm => by
    obtain ⟨o', es', ep', ho', r'⟩ := hm
    rw [ho] at ho'; cases ho'
    exact ⟨_, es', ep', hL, r'⟩) hok I.bare
theorem Inv.call {g' : Array GenState} {t' : Nat} {d' : Drawn} {ch : List Addr} (I : Inv X pins σ H s) (u : Un (frs X.stack) ch H H' s.heap h') (hok : HOk X.prog X.w H' h') (hg : AllBare g')
    (hch : ∀ b ∈ ch, (b ∈ X.ex ∨ X.s₀.heap.objs.size <= b) /\ b ≠ X.env.locals /\ (∀ x c, X.env.cells.lookup x = some c -> c ≠ b) /\ ∀ p ∈ X.pn ++ pins, p.1 ≠ b) :
    Inv X pins σ H' { s with heap := h', gens := g', drawn := d', toks := t' } := by
  obtain ⟨m, ⟨o, es, ep, ho, r⟩, _⟩ := id I.loc
  obtain ⟨sl, hL⟩ := u.any ho I.free fun z => (hch _ z).2.1 rfl
  exact I.step (ch := ch) hch (fun b o hL hb hc e n => u.keep b o e n (fun z => (List.mem_cons.mp (I.stkSub b z)).elim hL hb) hc) (fun b o _ _ hc e n => u.any e n hc) (fun b o hc e n => u.free b o e n hc) (fun b o hc e => u.there b o e hc) u.tups u.frzs u.tbls (fun m' hm => by
    obtain ⟨o', es', ep', ho', r'⟩ := hm
    rw [ho] at ho'; cases ho'
    exact ⟨_, es', ep', hL, r'⟩) hok hg
theorem Inv.turned {t' : Nat} {it : Addr} (I : Inv X pins σ H s) (k : ∀ b o, b ≠ it -> s.heap.get? b = some o -> h'.get? b = some o) (hn : H it = none) (hL : it ≠ X.env.locals)
    (h1 : it ∈ X.ex ∨ X.s₀.heap.objs.size <= it) (h2 : ∀ x c, X.env.cells.lookup x = some c -> c ≠ it) (h3 : ∀ p ∈ X.pn ++ pins, p.1 ≠ it) : Inv X pins σ H { s with heap := h', toks := t' } := by
  have nit : ∀ b u, H b = some u -> b ≠ it := fun b u e z => by rw [z, hn] at e; cases e
  refine I.step (g' := s.gens) (d' := s.drawn) (ch := [it]) (fun b hb => ?_) (fun b o _ _ hc e _ => k b o (fun z => hc (by simp [z])) e) (fun b o _ _ hc e _ => ⟨o.slots, k b o (fun z => hc (by simp [z])) e⟩) (fun _ _ _ _ n => n)
    (fun b o hc e => ⟨o, k b o (fun z => hc (by simp [z])) e⟩) (fun _ _ e => e) (fun _ _ _ e => e) (fun b ps e => ⟨#[], by rw [e]; simp⟩) (fun m hm => ?_) (fun b u e => ?_) I.bare
  · have e : b = it := by simpa using hb
    subst e
    exact ⟨h1, hL, h2, h3⟩
  · obtain ⟨o, es, ep, ho, r⟩ := hm
    exact ⟨o, es, ep, k _ o (Ne.symm hL) ho, r⟩
  · refine (I.hok b u e).stay (fun c v hc q => k c v ?_ q) (fun _ q => q) fun _ _ q => q
    rcases hc with z | z
    · rw [z]; exact nit b u e
    · exact nit c _ z
theorem Inv.tok (I : Inv X pins σ H s) (t : Nat) : Inv X pins σ H { s with toks := t } := I.un (h' := s.heap) (t' := t) Un.refl I.hok
theorem Inv.kept {t' : Nat} (I : Inv X pins σ H s) (k : ∀ b u, s.heap.get? b = some u -> h'.get? b = some u) : Inv X pins σ H { s with heap := h', toks := t' } := I.un (Un.kept k) (I.hok.kept k)
theorem Inv.laid {a : Addr} {o : HO} {t' : Nat} (I : Inv X pins σ H s) (k : ∀ b u, s.heap.get? b = some u -> h'.get? b = some u) (hp : s.heap.objs.size <= a) (new : ObjOk X.prog X.w (upd H a o) h' a o) :
    Inv X pins σ (upd H a o) { s with heap := h', toks := t' } := I.un (Un.laid k hp (I.hok.fresh hp)) (I.hok.laid k hp new)
theorem Inv.write {x e : Addr} {o : HO} {t' : Nat} (I : Inv X pins σ H s) (mu : Mut (H x)) (he : e = x ∨ H e = some (.own x)) (k : ∀ b u, b ≠ e -> s.heap.get? b = some u -> h'.get? b = some u) (heo : ∃ u, h'.get? e = some u)
    (new : ObjOk X.prog X.w (upd H x o) h' x o) : Inv X pins σ (upd H x o) { s with heap := h', toks := t' } := I.un (Un.write mu he k heo) (I.hok.write mu he k heo new)
theorem Inv.pins_of {pins' : List (Addr × Obj)} (I : Inv X pins σ H s) (h : ∀ p ∈ pins', s.heap.get? p.1 = some p.2 /\ H p.1 = none /\ p.1 ≠ X.env.locals /\ p.1 ∉ X.fs /\ ∀ v, p.2.data ≠ .cell v) : Inv X pins' σ H s :=
  ⟨I.ok, I.os, I.bare, I.base, I.loc, I.cell, I.free, I.freeC, fun p hp => (List.mem_append.mp hp).elim (fun z => I.pin p (List.mem_append_left _ z)) (h p), I.hok, I.len⟩
theorem nodup_ix {N : List Str} (hN : N.Nodup) {i j : Nat} {x : Str} (a : N[i]? = some x) (b : N[j]? = some x) : i = j := by
  obtain ⟨h1, e1⟩ := List.getElem?_eq_some_iff.mp a
  obtain ⟨h2, e2⟩ := List.getElem?_eq_some_iff.mp b
  exact (List.getElem_inj hN).mp (e1.trans e2.symm)
theorem store_ok2 {M : Model} {A : Around} {E : Value -> Shared -> Prop} {i : Nat} {x : Str} {v : V} {u : Value} {Q : Unit -> Shared -> Prop} (I : Inv X pins σ H s) (hN : X.N.Nodup) (hi : X.N[i]? = some x) (hx : Loc X.env.scope x) (r : RelV v u)
    (h : ∀ s', Inv X pins (σ.set i (some v)) H s' -> (∃ a, Heap.SameBut a s.heap s'.heap /\ (a = X.env.locals ∨ X.env.cells.lookup x = some a)) -> Q () s') (hf : X.fn x = true ∨ X.env.scope.names.lookup x = some .local := by first | exact .inl rfl | exact .inr rfl | assumption) : wpAny M A (storeName X.env x u) Q E s := by
  obtain ⟨m, hn, hl⟩ := id I.loc
  have hcls : (X.env.scope.kind == .class || (X.env.scope.kind == .module && X.env.locals != X.env.globals)) = false := by rw [I.ok.kind]; rfl
  have hiσ : i < σ.length := by rw [I.len]; exact (List.getElem?_eq_some_iff.mp hi).1
  have cne := I.cne
  have tracked : ∀ {a : Addr} {h' : Heap}, (∃ o, s.heap.get? a = some o /\ H a = none) -> Heap.SameBut a s.heap h' -> HOk X.prog X.w H h' := fun {a h'} ha hs b ob e => by
    obtain ⟨_, _, hfree⟩ := ha
    refine (I.hok b ob e).stay (fun c w' hc q => (hs.2 c ?_).trans q) (fun _ q => q) fun _ _ q => q
    rintro rfl
    rcases hc with rfl | hc
    · rw [hfree] at e; cases e
    · rw [hfree] at hc; cases hc
  rcases hx with hk | hk
  · refine wpAny_storeName_local hk hn (fun h' hn' hs => ?_) hcls
    obtain ⟨oL, _, _, hoL, _⟩ := id hn
    refine h _ ⟨I.ok, I.os, I.bare, ⟨fun b o e n hb hx => ?_, fun b o e n hb hx => ?_, I.base.free, fun b o e hx => ?_, I.base.tups, I.base.frzs, I.base.tbls⟩, ⟨_, hn', fun j y v' e1 e2 e3 => ?_⟩, fun y c e => ?_, I.free, I.freeC, fun p hp => ?_, tracked ⟨oL, hoL, I.free⟩ hs, by simpa using I.len⟩ ⟨_, hs, .inl rfl⟩
    · exact (hs.2 b (Nat.ne_of_lt (Nat.lt_of_lt_of_le (Heap.lt_size e) I.ok.above))).trans (I.base.keep b o e n hb hx)
    · obtain ⟨sl, e1⟩ := I.base.slot b o e n hb hx
      exact ⟨sl, (hs.2 b (Nat.ne_of_lt (Nat.lt_of_lt_of_le (Heap.lt_size e) I.ok.above))).trans e1⟩
    · obtain ⟨o', e1⟩ := I.base.there b o e hx
      exact ⟨o', (hs.2 b (Nat.ne_of_lt (Nat.lt_of_lt_of_le (Heap.lt_size e) I.ok.above))).trans e1⟩
    · by_cases hj : j = i
      · subst hj
        rw [hi] at e1; cases e1
        rw [List.getElem?_set_self hiσ] at e2
        cases e2
        exact ⟨u, r, .inl ⟨hk, by simp⟩⟩
      · rw [List.getElem?_set_ne (Ne.symm hj)] at e2
        obtain ⟨u', r', q⟩ := hl j y v' e1 e2 e3
        refine ⟨u', r', ?_⟩
        rcases q with ⟨k, e⟩ | ⟨k, c, e, z⟩
        · refine .inl ⟨k, ?_⟩
          have : y ≠ x := fun e => hj (nodup_ix hN e1 (e ▸ hi))
          simp [this, e]
        · exact .inr ⟨k, c, e, z.sameBut hs (cne y c e)⟩
    · obtain ⟨w', z⟩ := I.cell y c e
      exact ⟨w', z.sameBut hs (cne y c e)⟩
    · obtain ⟨e, n, ne, nf, d⟩ := I.pin p hp
      exact ⟨(hs.2 p.1 ne).trans e, n, ne, nf, d⟩
  · have hfn : X.fn x = true := by
      rcases hf with z | z
      · exact z
      · rw [z] at hk; cases hk
    obtain ⟨c, hc⟩ := I.ok.has x (.inl hk)
    obtain ⟨w', z⟩ := I.cell x c hc
    refine wpAny_storeName_cell I.ok.kind hk hc z (fun h' hc' hs => ?_)
    obtain ⟨oc, hoc, hocd⟩ := id z
    refine h { s with heap := h' } ⟨I.ok, I.os, I.bare, ⟨fun b o e n hb hx => ?_, fun b o e n hb hx => ?_, I.base.free, fun b o e hx => ?_, I.base.tups, I.base.frzs, I.base.tbls⟩, ⟨m, hn.sameBut hs (Ne.symm (cne x c hc)), fun j y v' e1 e2 e3 => ?_⟩, fun y c' e => ?_, I.free, I.freeC, fun p hp => ?_, tracked ⟨oc, hoc, I.freeC x c hc⟩ hs, by simpa using I.len⟩ ⟨c, hs, .inr hc⟩
    · exact (hs.2 b (Nat.ne_of_lt (Nat.lt_of_lt_of_le (Heap.lt_size e) (I.ok.cab x c hfn hc)))).trans (I.base.keep b o e n hb hx)
    · obtain ⟨sl, e1⟩ := I.base.slot b o e n hb hx
      exact ⟨sl, (hs.2 b (Nat.ne_of_lt (Nat.lt_of_lt_of_le (Heap.lt_size e) (I.ok.cab x c hfn hc)))).trans e1⟩
    · obtain ⟨o', e1⟩ := I.base.there b o e hx
      exact ⟨o', (hs.2 b (Nat.ne_of_lt (Nat.lt_of_lt_of_le (Heap.lt_size e) (I.ok.cab x c hfn hc)))).trans e1⟩
    · by_cases hj : j = i
      · subst hj
        rw [hi] at e1; cases e1
        rw [List.getElem?_set_self hiσ] at e2
        cases e2
        exact ⟨u, r, .inr ⟨.inl hk, c, hc, hc'⟩⟩
      · rw [List.getElem?_set_ne (Ne.symm hj)] at e2
        obtain ⟨u', r', q⟩ := hl j y v' e1 e2 e3
        refine ⟨u', r', ?_⟩
        rcases q with q | ⟨k, c', e, z'⟩
        · exact .inl q
        · refine .inr ⟨k, c', e, z'.sameBut hs ?_⟩
          rintro rfl
          exact hj (nodup_ix hN e1 (I.ok.inj _ _ _ e hc ▸ hi))
    · by_cases hcc : c' = c
      · subst hcc; exact ⟨_, hc'⟩
      · obtain ⟨w2, z2⟩ := I.cell y c' e
        exact ⟨w2, z2.sameBut hs hcc⟩
    · obtain ⟨e, n, ne, nf, d⟩ := I.pin p hp
      refine ⟨(hs.2 p.1 ?_).trans e, n, ne, nf, d⟩
      intro q
      rw [q, hoc] at e
      have q' : oc = p.2 := Option.some.inj e
      exact d w' (by rw [← q']; exact hocd)
theorem store_ok {M : Model} {A : Around} {E : Value -> Shared -> Prop} {i : Nat} {x : Str} {v : V} {u : Value} {Q : Unit -> Shared -> Prop} (I : Inv X pins σ H s) (hN : X.N.Nodup) (hi : X.N[i]? = some x) (hx : Loc X.env.scope x) (r : RelV v u)
    (h : ∀ s', Inv X pins (σ.set i (some v)) H s' -> Q () s') (hf : X.fn x = true ∨ X.env.scope.names.lookup x = some .local := by first | exact .inl rfl | exact .inr rfl | assumption) : wpAny M A (storeName X.env x u) Q E s :=
  store_ok2 I hN hi hx r (fun s' I' _ => h s' I') hf
theorem Inv.call' {s' : Shared} {ch : List Addr} (I : Inv X pins σ H s) (ho : s'.os = s.os) (u : Un (frs X.stack) ch H H' s.heap s'.heap) (hok : HOk X.prog X.w H' s'.heap) (hg : AllBare s'.gens)
    (hch : ∀ b ∈ ch, (b ∈ X.ex ∨ X.s₀.heap.objs.size <= b) /\ b ≠ X.env.locals /\ (∀ x c, X.env.cells.lookup x = some c -> c ≠ b) /\ ∀ p ∈ X.pn ++ pins, p.1 ≠ b) : Inv X pins σ H' s' := by
  obtain ⟨h', g', d', t', o'⟩ := s'
  have e : o' = s.os := ho
  subst e
  exact I.call (g' := g') (t' := t') (d' := d') u hok hg hch
end
abbrev XK := Value -> Option Addr -> Hp -> Prop
abbrev St := List (Option V)
abbrev VK := V -> Hp -> Prop
abbrev TE := St -> Hp -> VK -> Prop
abbrev TT := St -> Hp -> (Bool -> Hp -> Prop) -> Prop
abbrev TA := St -> Hp -> (List V -> Hp -> Prop) -> Prop
structure Ends where
  nx : St -> Hp -> Prop
  rt : VK
  bk : St -> Hp -> Prop := fun _ _ => False
  ct : St -> Hp -> Prop := fun _ _ => False
abbrev TS := Ends -> St -> Hp -> Prop
def EP (X : Cx) (pins : List (Addr × Obj)) (σ : St) (Q : VK) (u : Value) (s' : Shared) : Prop := ∃ v H', Inv X pins σ H' s' /\ RelV v u /\ Q v H'
def TP (X : Cx) (pins : List (Addr × Obj)) (σ : St) (Q : Bool -> Hp -> Prop) (b : Bool) (s' : Shared) : Prop := ∃ H', Inv X pins σ H' s' /\ Q b H'
def AP (X : Cx) (pins : List (Addr × Obj)) (σ : St) (Q : List V -> Hp -> Prop) (us : List Value) (s' : Shared) : Prop := ∃ vs H', Inv X pins σ H' s' /\ Vals vs us /\ Q vs H'
def SP (X : Cx) (pins : List (Addr × Obj)) (D : Ends) (f : Flow) (s' : Shared) : Prop :=
  match f with
  | .next => ∃ σ' H', Inv X pins σ' H' s' /\ D.nx σ' H'
  | .brk => ∃ σ' H', Inv X pins σ' H' s' /\ D.bk σ' H'
  | .cont => ∃ σ' H', Inv X pins σ' H' s' /\ D.ct σ' H'
  | .ret u => ∃ v σ' H', Inv X pins σ' H' s' /\ RelV v u /\ D.rt v H'
def PE (X : Cx) (e : Expr) (t : TE) : Prop :=
  ∀ (pins : List (Addr × Obj)) (s : Shared) (σ : St) (H : Hp) (Q : VK), Inv X pins σ H s -> t σ H Q -> wpAny (model X.prog X.w) X.A (eval e X.env) (EP X pins σ Q) X.xe s
def PT (X : Cx) (e : Expr) (t : TT) : Prop :=
  ∀ (pins : List (Addr × Obj)) (s : Shared) (σ : St) (H : Hp) (Q : Bool -> Hp -> Prop), Inv X pins σ H s -> t σ H Q -> wpAny (model X.prog X.w) X.A (isTrue e X.env (eval e X.env)) (TP X pins σ Q) X.xe s
def PW (X : Cx) (e : Expr) (t : TT) : Prop :=
  ∀ (whole : Sem Value) (pins : List (Addr × Obj)) (s : Shared) (σ : St) (H : Hp) (Q : Bool -> Hp -> Prop), Inv X pins σ H s -> t σ H Q -> wpAny (model X.prog X.w) X.A (isTrue e X.env whole) (TP X pins σ Q) X.xe s
theorem PW.pt {X : Cx} {e : Expr} {t : TT} (h : PW X e t) : PT X e t := h _
def PA (X : Cx) (es : List Expr) (t : TA) : Prop :=
  ∀ (pos : Pos) (pins : List (Addr × Obj)) (s : Shared) (σ : St) (H : Hp) (Q : List V -> Hp -> Prop), Inv X pins σ H s -> t σ H Q -> wpAny (model X.prog X.w) X.A (spliced (backTo pos (starEach es X.env))) (AP X pins σ Q) X.xe s
def PS (X : Cx) (st : Stmt) (t : TS) : Prop :=
  ∀ (pins : List (Addr × Obj)) (s : Shared) (σ : St) (H : Hp) (D : Ends), Inv X pins σ H s -> t D σ H -> wpAny (model X.prog X.w) X.A (exec st X.env) (SP X pins D) X.xe s
def PSs (X : Cx) (st : List Stmt) (t : TS) : Prop :=
  ∀ (pins : List (Addr × Obj)) (s : Shared) (σ : St) (H : Hp) (D : Ends), Inv X pins σ H s -> t D σ H -> wpAny (model X.prog X.w) X.A (execs st X.env) (SP X pins D) X.xe s
theorem thn {α : Type} {t : Sem α} {Q Q' : α -> Shared -> Prop} {M : Model} {A : Around} {E : Value -> Shared -> Prop} {s : Shared} (h : wpAny M A t Q E s) (hQ : ∀ a s, Q a s -> Q' a s) : wpAny M A t Q' E s := wpAny_mono h hQ fun _ _ x => x
end L2
namespace L2
open PySem PySem.Spec PyProof.Rows
section
variable {X : Cx}
def tVar (i : Nat) : TE := fun σ H Q => ∃ v, σ[i]? = some (some v) /\ Q v H
def tC (v : V) : TE := fun _ H Q => Q v H
theorem pe_var {i : Nat} {x : Str} {pos : Pos} (hN : X.N[i]? = some x) (hv : Vis X.env.scope x) (hd : (x == ("__debug__" : Str)) = false := by decide) (hcd : (x == ("__classdict__" : Str)) = false := by decide) : PE X (.Name x pos) (tVar i) := by
  intro pins s σ H Q I h
  obtain ⟨v, e, h⟩ := h
  obtain ⟨m, hn, hl⟩ := I.loc
  obtain ⟨u, r, l⟩ := hl i x v hN e hv
  have fin : EP X pins σ Q u s := ⟨v, H, I, r, h⟩
  rcases l with ⟨hk, hm⟩ | ⟨hk, c, hc, hcell⟩
  · exact wpAny_Name (wpAny_loadName_local I.ok.kind hk hn hm fin) hd
  · rcases hk with hk | hk
    · exact wpAny_Name (wpAny_loadName_cell I.ok.kind hk hc hcell fin) hd
    · exact wpAny_Name (wpAny_loadName_free I.ok.kind hk hc hcell fin hcd) hd
theorem pe_int {i j pos} : PE X (.Constant (.int i) j pos) (tC (.int i)) := fun _ _ _ H _ I h => wpAny_Constant_int ⟨.int i, H, I.tok _, ⟨_, rfl⟩, h⟩
theorem pe_bl {b j pos} : PE X (.Constant (.bool b) j pos) (tC (.bl b)) := fun _ _ _ H _ I h => Constant_bool ⟨.bl b, H, I, rfl, h⟩
theorem pe_non {j pos} : PE X (.Constant .none j pos) (tC .non) := fun _ _ _ H _ I h => Constant_none ⟨.non, H, I, rfl, h⟩
theorem pe_str {x j pos} : PE X (.Constant (.str x) j pos) (tC (.str x)) := fun _ _ _ H _ I h => Calls.Constant_str ⟨.str x, H, I.tok _, ⟨_, rfl⟩, h⟩
def Gl (X : Cx) (x : Str) : Prop := X.env.kindOf x = some .globalImplicit
theorem ld_glob {E : Value -> Shared -> Prop} {pins : List (Addr × Obj)} {s : Shared} {σ : St} {H : Hp} {x : Str} {u : Value} {pos : Pos} {Q : Value -> Shared -> Prop} (I : Inv X pins σ H s) (hg : Gl X x) (hm : X.mg x = some u) (h : Q u s)
    (hd : (x == ("__debug__" : Str)) = false := by decide) : wpAny (model X.prog X.w) X.A (eval (.Name x pos) X.env) Q E s :=
  Calls.Name_function_global I.ok.kind hg (Calls.loadGlobal_global (by rw [I.ok.glob]; exact I.mod.glob.keeps I.bk) hm h) hd
theorem ld_blt {E : Value -> Shared -> Prop} {pins : List (Addr × Obj)} {s : Shared} {σ : St} {H : Hp} {x : Str} {u : Value} {pos : Pos} {Q : Value -> Shared -> Prop} (I : Inv X pins σ H s) (hg : Gl X x) (hm : X.mg x = none) (hv : bootBuiltins x = some u) (h : Q u s)
    (hn : x ≠ "__name__" := by decide) (hd : (x == ("__debug__" : Str)) = false := by decide) : wpAny (model X.prog X.w) X.A (eval (.Name x pos) X.env) Q E s := by
  obtain ⟨mb, h1, h2⟩ := I.mod.blt
  exact Calls.Name_function_global I.ok.kind hg (Calls.loadGlobal_builtin (by rw [I.ok.glob]; exact I.mod.glob.keeps I.bk) hm (by rw [I.ok.blt]; exact h1.keeps I.bk) ((h2 x hn).trans hv) h) hd
theorem pe_glob {x : Str} {v : V} {u : Value} {pos : Pos} (hg : Gl X x) (hm : X.mg x = some u) (r : RelV v u) (hd : (x == ("__debug__" : Str)) = false := by decide) : PE X (.Name x pos) (tC v) :=
  fun _ _ _ H _ I h => ld_glob I hg hm ⟨v, H, I, r, h⟩ hd
theorem pe_bltn {x : Str} {v : V} {u : Value} {pos : Pos} (hg : Gl X x) (hm : X.mg x = none) (hv : bootBuiltins x = some u) (r : RelV v u) (hn : x ≠ "__name__" := by decide) (hd : (x == ("__debug__" : Str)) = false := by decide) : PE X (.Name x pos) (tC v) :=
  fun _ _ _ H _ I h => ld_blt I hg hm hv ⟨v, H, I, r, h⟩ hn hd
variable {a b : Expr} {ta tb : TE} {pos : Pos}
variable {tA tB' : TT} {rest : List Expr}
def tAnd (t u : TT) : TT := fun σ H Q => t σ H fun c H1 => if c = true then u σ H1 Q else Q false H1
def tOr (t u : TT) : TT := fun σ H Q => t σ H fun c H1 => if c = true then Q true H1 else u σ H1 Q
def tNot (t : TT) : TT := fun σ H Q => t σ H fun c H1 => Q (!c) H1
theorem pw_and1 (ha : PT X a tA) : PW X (.BoolOp .And [a] pos) tA := by
  intro wh pins s σ H Q I h
  refine isTrue_and (thn (ha pins s σ H Q I h) fun c s1 e => ?_)
  cases c with
  | true => exact isTrue_and_nil e
  | false => exact e
theorem pw_or1 (ha : PT X a tA) : PW X (.BoolOp .Or [a] pos) tA := by
  intro wh pins s σ H Q I h
  refine isTrue_or (thn (ha pins s σ H Q I h) fun c s1 e => ?_)
  cases c with
  | false => exact isTrue_or_nil e
  | true => exact e
theorem pw_and (ha : PT X a tA) (hb : PW X (.BoolOp .And (b :: rest) pos) tB') : PW X (.BoolOp .And (a :: b :: rest) pos) (tAnd tA tB') := by
  intro wh pins s σ H Q I h
  refine isTrue_and (thn (ha pins s σ H _ I h) fun c s1 ⟨H1, I1, q1⟩ => ?_)
  cases c with
  | true => exact hb wh pins s1 σ H1 Q I1 q1
  | false => exact ⟨H1, I1, q1⟩
theorem pw_or (ha : PT X a tA) (hb : PW X (.BoolOp .Or (b :: rest) pos) tB') : PW X (.BoolOp .Or (a :: b :: rest) pos) (tOr tA tB') := by
  intro wh pins s σ H Q I h
  refine isTrue_or (thn (ha pins s σ H _ I h) fun c s1 ⟨H1, I1, q1⟩ => ?_)
  cases c with
  | true => exact ⟨H1, I1, q1⟩
  | false => exact hb wh pins s1 σ H1 Q I1 q1
theorem pt_not (ha : PT X a tA) : PT X (.UnaryOp .Not a pos) (tNot tA) := by
  intro pins s σ H Q I h
  exact isTrue_not (ha pins s σ H (fun c H1 => Q (!c) H1) I h)
def tAndV (ta tb : TE) : TE := fun σ H Q => ta σ H fun x H1 => ∃ c, x = .bl c /\ if c = true then tb σ H1 Q else Q (.bl false) H1
def tNotV (ta : TE) : TE := fun σ H Q => ta σ H fun x H1 => ∃ c, x = .bl c /\ Q (.bl (!c)) H1
theorem pe_one {op} {t : TE} (h : PE X a t) : PE X (.BoolOp op [a] pos) t := fun pins s σ H Q I hw => BoolOp_one (h pins s σ H Q I hw)
theorem pe_and (ha : PE X a ta) (hb : PE X (.BoolOp .And (b :: rest) pos) tb) : PE X (.BoolOp .And (a :: b :: rest) pos) (tAndV ta tb) := by
  intro pins s σ H Q I h
  refine BoolOp_and (thn (ha pins s σ H _ I h) fun v s1 ⟨x, H1, I1, r1, q1⟩ => ?_)
  obtain ⟨c, rfl, q1⟩ := q1
  cases r1
  refine wpAny_truthy_bool ?_
  cases c with
  | true => exact hb pins s1 σ H1 Q I1 q1
  | false => exact ⟨.bl false, H1, I1, rfl, q1⟩
theorem pe_not (ha : PE X a ta) : PE X (.UnaryOp .Not a pos) (tNotV ta) := by
  intro pins s σ H Q I h
  refine UnaryOp_ (thn (ha pins s σ H _ I h) fun v s1 ⟨x, H1, I1, r1, q1⟩ => ?_)
  obtain ⟨c, rfl, q1⟩ := q1
  cases r1
  exact not_of (wpAny_truthy_bool ⟨.bl (!c), H1, I1, rfl, q1⟩)
def tIf (t : TT) (ta tb : TE) : TE := fun σ H Q => t σ H fun c H1 => if c = true then ta σ H1 Q else tb σ H1 Q
theorem pe_ifExp {c : Expr} (hc : PT X c tA) (ha : PE X a ta) (hb : PE X b tb) : PE X (.IfExp c a b pos) (tIf tA ta tb) := by
  intro pins s σ H Q I h
  refine wpAny_IfExp (thn (hc pins s σ H _ I h) fun d s1 ⟨H1, I1, q1⟩ => ?_)
  cases d with
  | true => exact ha pins s1 σ H1 Q I1 q1
  | false => exact hb pins s1 σ H1 Q I1 q1
end
end L2
namespace L2
open PySem PySem.Spec PyProof.Rows
def SqL (K : PySem.W.Frag) (H : Hp) (a : Addr) (xs : List V) : Prop :=
  Rd H a (.lst xs) ∨
    ∃ (o : Obj) (its : Array Value) (n : Nat), K.lookup a = some o /\ o.cls = .type "list" /\ o.dict = none /\ o.data = .seq its n /\ its.size <= sizeLine /\ Vals xs its.toList
def SqT (K : PySem.W.Frag) (H : Hp) (a : Addr) (xs : List V) : Prop :=
  Rd H a (.tup xs) ∨
    ∃ (o : Obj) (its : Array Value) (n : Nat), K.lookup a = some o /\ o.cls = .type "tuple" /\ o.data = .seq its n /\ its.size <= sizeLine /\ Vals xs its.toList
def absV : Value -> Option V
  | .none => some .non
  | .bool b => some (.bl b)
  | .int i _ => some (.int i)
  | .str x _ => some (.str x)
  | .bytes b _ => some (.byt b)
  | .float b _ => some (.flt b)
  | .ref a => some (.ref a)
  | .type n => some (.ty n)
  | _ => none
theorem RelV.abs {x : V} {u : Value} (r : RelV x u) : absV u = some x := by
  cases x with
  | non => cases r; rfl
  | bl _ => cases r; rfl
  | int _ => obtain ⟨t, rfl⟩ := r; rfl
  | str _ => obtain ⟨t, rfl⟩ := r; rfl
  | byt _ => obtain ⟨t, rfl⟩ := r; rfl
  | flt _ => obtain ⟨t, rfl⟩ := r; rfl
  | ref _ => cases r; rfl
  | ty _ => cases r; rfl
theorem RelV.inj {x y : V} {u : Value} (r : RelV x u) (q : RelV y u) : x = y := Option.some.inj (r.abs.symm.trans q.abs)
theorem Vals.inj : ∀ {xs ys : List V} {us : List Value}, Vals xs us -> Vals ys us -> xs = ys
  | _, _, _, .nil, .nil => rfl
  | _, _, _, .cons r t, .cons r' t' => by rw [r.inj r', Vals.inj t t']
section
variable {X : Cx} {pins : List (Addr × Obj)} {σ : St} {H : Hp} {s : Shared} {a : Addr} {xs ys : List V}
theorem SqL.of {K : PySem.W.Frag} (h : H a = some (.lst xs)) : SqL K H a xs := .inl (.inl h)
theorem Inv.list (I : Inv X pins σ H s) (h : SqL X.K H a xs) : ∃ its : List Value, Vals xs its /\ PlainL s.heap a its.toArray /\ xs.length <= sizeLine := by
  rcases h with h | ⟨o, its, n, hk, hc, hd, hs, hz, r⟩
  · obtain ⟨z, its, n, r, e⟩ := h.ok I.hok
    exact ⟨its, r, ⟨_, n, e, rfl, rfl, rfl⟩, z⟩
  · refine ⟨its.toList, r, ⟨o, n, I.kIn a o hk, hc, hd, by simpa using hs⟩, ?_⟩
    have e := r.length
    simp only [Array.length_toList] at e
    omega
theorem Inv.tuple (I : Inv X pins σ H s) (h : SqT X.K H a xs) : ∃ its : List Value, Vals xs its /\ IsTup s.heap a its.toArray /\ xs.length <= sizeLine := by
  rcases h with h | ⟨o, its, n, hk, hc, hs, hz, r⟩
  · obtain ⟨z, its, r, p⟩ := h.ok I.hok
    exact ⟨its, r, p.tup, z⟩
  · refine ⟨its.toList, r, ⟨o, I.kIn a o hk, hc, n, by simpa using hs⟩, ?_⟩
    have e := r.length
    simp only [Array.length_toList] at e
    omega
theorem Inv.list_inj (I : Inv X pins σ H s) (h : SqL X.K H a xs) (h' : SqL X.K H a ys) : xs = ys := by
  obtain ⟨its, r, ⟨o, n, e, _, _, d⟩, _⟩ := I.list h
  obtain ⟨its', r', ⟨o', n', e', _, _, d'⟩, _⟩ := I.list h'
  rw [e] at e'; cases e'
  rw [d] at d'
  injection d' with d1 _
  have : its = its' := by simpa using congrArg Array.toList d1
  subst this
  exact r.inj r'
theorem Inv.tuple_inj (I : Inv X pins σ H s) (h : SqT X.K H a xs) (h' : SqT X.K H a ys) : xs = ys := by
  obtain ⟨its, r, ⟨o, e, _, n, d⟩, _⟩ := I.tuple h
  obtain ⟨its', r', ⟨o', e', _, n', d'⟩, _⟩ := I.tuple h'
  rw [e] at e'; cases e'
  rw [d] at d'
  injection d' with d1 _
  have : its = its' := by simpa using congrArg Array.toList d1
  subst this
  exact r.inj r'
end
abbrev Cx.wish (X : Cx) (E : Value -> Shared -> Prop) : Cx := { X with xe := E }
abbrev Cx.nox (X : Cx) : Cx := X.wish fun _ _ => False
theorem Cx.Ok.wish {X : Cx} (ok : X.Ok) (E : Value -> Shared -> Prop) : (X.wish E).Ok :=
  ⟨ok.mod, ok.kind, ok.glob, ok.blt, ok.above, ok.inj, ok.has, ok.cab, ok.hd, ok.frames, ok.stk, ok.exf, ok.bs, ok.bsz, ok.noex, ok.exfs, ok.funs, ok.frf⟩
theorem Cx.Ok.unwish {X : Cx} {E : Value -> Shared -> Prop} (ok : (X.wish E).Ok) : X.Ok :=
  ⟨ok.mod, ok.kind, ok.glob, ok.blt, ok.above, ok.inj, ok.has, ok.cab, ok.hd, ok.frames, ok.stk, ok.exf, ok.bs, ok.bsz, ok.noex, ok.exfs, ok.funs, ok.frf⟩
section
variable {X : Cx} {pins : List (Addr × Obj)} {σ : St} {H : Hp} {s : Shared} {E : Value -> Shared -> Prop}
theorem Inv.wish (I : Inv X pins σ H s) (E : Value -> Shared -> Prop) : Inv (X.wish E) pins σ H s := ⟨I.ok.wish E, I.os, I.bare, I.base, I.loc, I.cell, I.free, I.freeC, I.pin, I.hok, I.len⟩
theorem Inv.unwish (I : Inv (X.wish E) pins σ H s) : Inv X pins σ H s := ⟨I.ok.unwish, I.os, I.bare, I.base, I.loc, I.cell, I.free, I.freeC, I.pin, I.hok, I.len⟩
theorem SP.unwish {D : Ends} {f : Flow} {s' : Shared} (h : SP (X.wish E) pins D f s') : SP X pins D f s' := by
  cases f with
  | next => obtain ⟨σ', H', I, q⟩ := h; exact ⟨σ', H', I.unwish, q⟩
  | brk => obtain ⟨σ', H', I, q⟩ := h; exact ⟨σ', H', I.unwish, q⟩
  | cont => obtain ⟨σ', H', I, q⟩ := h; exact ⟨σ', H', I.unwish, q⟩
  | ret u => obtain ⟨v, σ', H', I, r, q⟩ := h; exact ⟨v, σ', H', I.unwish, r, q⟩
theorem PSs.nox {st : List Stmt} {t : TS} (h : PSs X.nox st t) : PSs X st t := fun pins s σ H D I hw =>
  wpAny_mono (h pins s σ H D (I.wish _) hw) (fun _ _ q => q.unwish) fun _ _ z => False.elim z
end
section
variable {X : Cx} {st : Stmt} {rest : List Stmt} {t u : TS} {e : Expr} {te : TE} {pos : Pos}
def tNext : TS := fun D σ H => D.nx σ H
def tSeq (t u : TS) : TS := fun D σ H => t { D with nx := u D } σ H
theorem pss_nil : PSs X [] tNext := fun _ _ σ H _ I h => wpAny_execs_nil ⟨σ, H, I, h⟩
theorem pss_cons (h1 : PS X st t) (h2 : PSs X rest u) : PSs X (st :: rest) (tSeq t u) := by
  intro pins s σ H D I h
  refine wpAny_execs_cons (thn (h1 pins s σ H { D with nx := u D } I h) fun f s1 q => ?_)
  cases f with
  | next =>
    obtain ⟨σ', H', I', q⟩ := q
    exact h2 pins s1 σ' H' D I' q
  | ret v => exact q
  | brk => exact q
  | cont => exact q
theorem pss_one (h1 : PS X st t) : PSs X [st] t := by
  intro pins s σ H D I h
  refine wpAny_execs_cons (thn (h1 pins s σ H D I h) fun f s1 q => ?_)
  cases f with
  | next => exact wpAny_execs_nil q
  | ret v => exact q
  | brk => exact q
  | cont => exact q
theorem Inv.quiet {pins : List (Addr × Obj)} {σ : St} {H : Hp} {s : Shared} (I : Inv X pins σ H s) : interactive X.env = false := by simp [interactive, I.ok.kind]
def tDrop (te : TE) : TS := fun D σ H => te σ H fun _ H1 => D.nx σ H1
theorem ps_expr (he : PE X e te) (hs : swapsWith e none pos.line X.env = pure false := by rfl) : PS X (.Expr e pos) (tDrop te) := by
  intro pins s σ H D I h
  exact wpAny_Expr_any (thn (he pins s σ H _ I h) fun v s1 ⟨x, H1, I1, r1, q1⟩ => ⟨σ, H1, I1, q1⟩) I.quiet hs
def tRet (te : TE) : TS := fun D σ H => te σ H D.rt
theorem ps_ret (he : PE X e te) : PS X (.Return (some e) pos) (tRet te) := by
  intro pins s σ H D I h
  exact wpAny_Return_some (thn (he pins s σ H _ I h) fun v s1 ⟨x, H1, I1, r1, q1⟩ => ⟨x, σ, H1, I1, r1, q1⟩)
def tIfS (c : TT) (t u : TS) : TS := fun D σ H => c σ H fun b H1 => if b = true then t D σ H1 else u D σ H1
theorem ps_if {c : Expr} {a b : List Stmt} {tc : TT} (hc : PT X c tc) (ha : PSs X a t) (hb : PSs X b u) : PS X (.If c a b pos) (tIfS tc t u) := by
  intro pins s σ H D I h
  refine wpAny_If (thn (hc pins s σ H _ I h) fun d s1 ⟨H1, I1, q1⟩ => ?_)
  cases d with
  | true => exact ha pins s1 σ H1 D I1 q1
  | false => exact hb pins s1 σ H1 D I1 q1
def tNever : TS := fun _ _ _ => False
theorem pss_never {sts : List Stmt} : PSs X sts tNever := fun _ _ _ _ _ _ h => h.elim
end
abbrev TG := V -> St -> Hp -> (St -> Hp -> Prop) -> Prop
abbrev TGs := List V -> St -> Hp -> (St -> Hp -> Prop) -> Prop
def PG (X : Cx) (target : Expr) (t : TG) : Prop :=
  ∀ (pins : List (Addr × Obj)) (s : Shared) (σ : St) (H : Hp) (v : V) (u : Value) (Q : St -> Hp -> Prop), Inv X pins σ H s -> RelV v u -> t v σ H Q ->
    wpAny (model X.prog X.w) X.A (assign target X.env u) (fun _ s' => ∃ σ' H', Inv X pins σ' H' s' /\ Q σ' H') X.xe s
def PGs (X : Cx) (ts : List Expr) (t : TGs) : Prop :=
  ∀ (pins : List (Addr × Obj)) (s : Shared) (σ : St) (H : Hp) (vs : List V) (us : List Value) (Q : St -> Hp -> Prop), Inv X pins σ H s -> Vals vs us -> t vs σ H Q ->
    wpAny (model X.prog X.w) X.A (assignInOrder ((assignEach ts X.env).map (·.2)) us) (fun _ s' => ∃ σ' H', Inv X pins σ' H' s' /\ Q σ' H') X.xe s
abbrev TSet := V -> V -> V -> Hp -> (Hp -> Prop) -> Prop
def PSet (X : Cx) (t : TSet) : Prop :=
  ∀ (pins : List (Addr × Obj)) (s : Shared) (σ : St) (H : Hp) (o i v : V) (ov iv u : Value) (Q : Hp -> Prop), Inv X pins σ H s -> RelV o ov -> RelV i iv -> RelV v u -> t o i v H Q ->
    wpAny (model X.prog X.w) X.A (setItem ov iv u) (fun _ s' => ∃ H', Inv X pins σ H' s' /\ Q H') X.xe s
section
variable {X : Cx} {pos : Pos}
def gName (i : Nat) : TG := fun v σ H Q => Q (σ.set i (some v)) H
theorem pg_name {i : Nat} {x : Str} (hN : X.N.Nodup) (hi : X.N[i]? = some x) (hx : Loc X.env.scope x) (hf : X.fn x = true ∨ X.env.scope.names.lookup x = some .local := by first | exact .inl rfl | exact .inr rfl | assumption) : PG X (.Name x pos) (gName i) := by
  intro pins s σ H v u Q I r h
  exact wpAny_assign_Name (store_ok I hN hi hx r (fun s' I' => ⟨_, H, I', h⟩) hf)
def gNil : TGs := fun vs σ H Q => vs = [] /\ Q σ H
def gCons (t : TG) (u : TGs) : TGs := fun vs σ H Q => ∃ v r, vs = v :: r /\ t v σ H fun σ' H' => u r σ' H' Q
theorem pgs_nil : PGs X [] gNil := by
  intro pins s σ H vs us Q I r h
  obtain ⟨e, h⟩ := h
  subst e
  cases r
  exact assignInOrder_nil ⟨σ, H, I, h⟩
theorem pgs_cons {e : Expr} {es : List Expr} {t : TG} {u : TGs} (h1 : PG X e t) (h2 : PGs X es u)
    (hs : (assignEach (e :: es) X.env).map (·.2) = assign e X.env :: (assignEach es X.env).map (·.2) := by rfl) : PGs X (e :: es) (gCons t u) := by
  intro pins s σ H vs us Q I r h
  obtain ⟨v, vr, e1, h⟩ := h
  subst e1
  cases r with
  | cons r rr =>
    rw [hs]
    refine assignInOrder_cons (thn (h1 pins s σ H _ _ _ I r h) fun _ s1 ⟨σ1, H1, I1, q1⟩ => ?_)
    exact h2 pins s1 σ1 H1 _ _ Q I1 rr q1
def gTup (K : PySem.W.Frag) (n : Nat) (t : TGs) : TG := fun v σ H Q => ∃ a xs, v = .ref a /\ SqT K H a xs /\ xs.length = n /\ t xs σ H Q
theorem pg_tup {es : List Expr} {k : Nat} {t : TGs} {n : Nat} (hc : X.calm = true) (h : PGs X es t)
    (hn : (assignEach es X.env).length = n := by rfl) (hst : (assignEach es X.env).findIdx? (·.1) = none := by rfl) : PG X (.Tuple es k pos) (gTup X.K n t) := by
  intro pins s σ H v u Q I r hw
  obtain ⟨a, xs, e1, hq, hl, hw⟩ := hw
  subst e1
  cases r
  obtain ⟨its, rv, ht, hz⟩ := I.tuple hq
  refine assign_Tuple_tuple (I.ok.hd hc) ht (by simp [hn, ← hl, rv.length]) hst fun h' hx => ?_
  have I1 : Inv X pins σ H { s with heap := h' } := I.kept (t' := s.toks) fun b o e => hx b o (Nat.ne_of_lt (Heap.lt_size e)) e
  exact h pins _ σ H xs _ Q I1 (by simpa using rv) hw
def gSub (to ti : TE) (t : TSet) : TG := fun v σ H Q => to σ H fun o H1 => ti σ H1 fun i H2 => t o i v H2 fun H3 => Q σ H3
theorem pg_sub {o i : Expr} {to ti : TE} {t : TSet} (ho : PE X o to) (hi : PE X i ti) (hs : PSet X t)
    (ha : ∀ v, assign (.Subscript o i pos) X.env v = (do
      let ov ← holding [v] (eval o X.env)
      let iv ← holding [v, ov] (eval i X.env)
      standAt pos
      holding [v, ov, iv] (setItem ov iv v)
      release [v, ov, iv] []) := by intro _; rfl) : PG X (.Subscript o i pos) (gSub to ti t) := by
  intro pins s σ H v u Q I r h
  rw [ha]
  refine wpAny_bind (wpAny_holding (thn (ho pins s σ H _ I h) fun ov s1 ⟨x, H1, I1, r1, q1⟩ => ?_))
  refine wpAny_bind (wpAny_holding (thn (hi pins s1 σ H1 _ I1 q1) fun iv s2 ⟨y, H2, I2, r2, q2⟩ => ?_))
  refine wpAny_bind (wpAny_standAt (wpAny_bind (wpAny_holding (thn (hs pins s2 σ H2 x y v ov iv u _ I2 r1 r2 r q2) fun _ s3 ⟨H3, I3, q3⟩ => ?_))))
  exact wpAny_release ⟨σ, H3, I3, q3⟩
def tAsg (te : TE) (g : TG) : TS := fun D σ H => te σ H fun x H1 => g x σ H1 D.nx
theorem ps_asg {tg e : Expr} {te : TE} {g : TG} (he : PE X e te) (hg : PG X tg g) (hs : swapsWithSole [tg] e pos.line X.env = pure false := by rfl) (hw : swappedStores [tg] e X.env = pure none := by rfl)
    (h1 : (assignEach [tg] X.env).map (·.2) = [assign tg X.env] := by rfl) : PS X (.Assign [tg] e pos) (tAsg te g) := by
  intro pins s σ H D I h
  refine wpAny_Assign_stores (thn (he pins s σ H _ I h) fun v s1 ⟨x, H1, I1, r1, q1⟩ => ?_) hs hw
  rw [h1]
  exact thn (hg pins s1 σ H1 x v _ I1 r1 q1) fun _ s2 q => q
theorem ps_set {i : Nat} {x : Str} {e : Expr} {te : TE} {pos' : Pos} (hN : X.N.Nodup) (hi : X.N[i]? = some x) (hx : Loc X.env.scope x) (he : PE X e te) (hs : swapsWith e (some (.Name x pos')) pos.line X.env = pure false := by rfl) (hf : X.fn x = true ∨ X.env.scope.names.lookup x = some .local := by first | exact .inl rfl | exact .inr rfl | assumption) :
    PS X (.Assign [.Name x pos'] e pos) (tAsg te (gName i)) := by
  intro pins s σ H D I h
  refine wpAny_Assign_Name (thn (he pins s σ H _ I h) fun v s1 ⟨y, H1, I1, r1, q1⟩ => ?_) hs
  exact store_ok I1 hN hi hx r1 (fun s2 I2 => ⟨_, H1, I2, q1⟩) hf
def tPar (i j : Nat) (ta : TA) : TS := fun D σ H => ta σ H fun vs H1 => ∃ v w, vs = [v, w] /\ D.nx ((σ.set i (some v)).set j (some w)) H1
theorem ps_par {i j : Nat} {x y : Str} {a b : Expr} {ta : TA} {px py pt : Pos} {kt k2 pt2} (hc : X.calm = true) (hN : X.N.Nodup) (hi : X.N[i]? = some x) (hj : X.N[j]? = some y) (hij : i ≠ j)
    (hx : X.env.scope.names.lookup x = some .local) (hy : X.env.scope.names.lookup y = some .local) (ha : PA X [a, b] ta)
    (hw : swappedStores [.Tuple [.Name x px, .Name y py] kt pt] (.Tuple [a, b] k2 pt2) X.env = pure (some [x, y]))
    (hs : swapsWithSole [.Tuple [.Name x px, .Name y py] kt pt] (.Tuple [a, b] k2 pt2) pos.line X.env = pure false := by rfl) :
    PS X (.Assign [.Tuple [.Name x px, .Name y py] kt pt] (.Tuple [a, b] k2 pt2) pos) (tPar i j ta) := by
  intro pins s σ H D I h
  rw [exec_Assign_arm]
  refine wpAny_bind (wpAny_standAt ?_)
  rw [hs]
  refine wpAny_bind (wpAny_pure ?_)
  rw [if_neg (by decide)]
  refine wpAny_bind (Tuple_ (thn (ha _ pins s σ H _ I h) fun us s1 ⟨vs, H1, I1, r1, q1⟩ => ?_))
  obtain ⟨v, w, e1, q1⟩ := q1
  subst e1
  obtain ⟨u1, u2, rfl, rv, rw'⟩ : ∃ u1 u2, us = [u1, u2] /\ RelV v u1 /\ RelV w u2 := by
    cases r1 with
    | cons p q =>
      cases q with
      | cons p' q' =>
        cases q'
        exact ⟨_, _, rfl, p, p'⟩
  refine wpAny_newObj_type ?_ (by show 2 <= sizeLine; decide)
  have I2 : Inv X pins σ H1 { s1 with heap := s1.heap.push { cls := .type "tuple", data := .seq [u1, u2].toArray } } := I1.kept (t' := s1.toks) fun b o e => Heap.get?_push_of_some _ e
  rw [hw]
  refine wpAny_bind (wpAny_pure ?_)
  show wpAny (model X.prog X.w) X.A (do rule "assign.swapped-stores"; let items ← unpackItems (.ref s1.heap.objs.size) 2 none; assignInOrder [fun v => bindName X.env y v, fun v => bindName X.env x v] items.reverse; pure Flow.next) _ _ _
  refine wpAny_bind (wpAny_rule (wpAny_bind (unpackItems_tuple (items := #[u1, u2]) (I.ok.hd hc) (IsTup.new s1.heap _) fun h' hx' => ?_)))
  have I3 := I2.kept (h' := h') (t' := s1.toks) fun b o e => hx' b o (Nat.ne_of_lt (Heap.lt_size e)) e
  show wpAny _ _ (assignInOrder [fun v => bindName X.env y v, fun v => bindName X.env x v] [u2, u1] >>= fun _ => pure Flow.next) _ _ _
  refine wpAny_bind (assignInOrder_cons (wpAny_bindName (store_ok I3 hN hj (.inl hy) rw' (fun s2 I4 => ?_) (.inr hy))))
  refine assignInOrder_cons (wpAny_bindName (store_ok I4 hN hi (.inl hx) rv (fun s3 I5 => assignInOrder_nil (wpAny_pure ?_)) (.inr hx)))
  rw [List.set_comm _ _ (Ne.symm hij)] at I5
  exact ⟨_, H1, I5, q1⟩
end
section
variable {X : Cx} {pos : Pos}
def tWhile (c : TT) (tb : TS) : TS := fun D σ H => ∃ W : Nat -> St -> Hp -> Prop, (∃ m, W m σ H) /\ ∀ m σ H, W m σ H ->
  c σ H fun b H1 => if b = true then ∃ N : St -> Hp -> Prop, (∀ σ' H', N σ' H' -> ∃ m', m' < m /\ W m' σ' H') /\ tb { D with nx := N, ct := N, bk := D.nx } σ H1 else D.nx σ H1
theorem ps_while {c : Expr} {body : List Stmt} {tc : TT} {tb : TS} (hp : PassesOwn (model X.prog X.w) X.A X.env X.xe) (hc : PT X c tc) (hb : PSs X body tb) : PS X (.While c body [] pos) (tWhile tc tb) := by
  intro pins s σ H D I h
  obtain ⟨W, ⟨m0, w0⟩, turn⟩ := h
  refine wpAny_While (codeAny_whileLoop (fun n s' => ∃ σ' H', Inv X pins σ' H' s' /\ W n σ' H') ?_ m0 ⟨σ, H, I, w0⟩)
  rintro n s1 ⟨σ1, H1, I1, w1⟩
  refine wpAny_passesOwn hp (thn (hc pins s1 σ1 H1 _ I1 (turn n σ1 H1 w1)) fun b s2 ⟨H2, I2, q2⟩ => ?_)
  cases b with
  | true =>
    obtain ⟨N, hN, q2⟩ := q2
    rw [if_pos rfl]
    refine wpAny_passesOwn hp (thn (hb pins s2 σ1 H2 _ I2 q2) fun f s3 q3 => ?_)
    cases f with
    | next =>
      obtain ⟨σ3, H3, I3, n3⟩ := q3
      obtain ⟨m', hm, w3⟩ := hN σ3 H3 n3
      exact ⟨m', hm, σ3, H3, I3, w3⟩
    | cont =>
      obtain ⟨σ3, H3, I3, n3⟩ := q3
      obtain ⟨m', hm, w3⟩ := hN σ3 H3 n3
      exact ⟨m', hm, σ3, H3, I3, w3⟩
    | brk => exact q3
    | ret v => exact q3
  | false =>
    rw [if_neg Bool.false_ne_true]
    exact wpAny_execs_nil ⟨σ1, H2, I2, q2⟩
end
structure It where
  go : Nat -> Hp -> Prop
  yld : Nat -> Hp -> V -> Hp -> Prop
  stop : Nat -> Hp -> Prop
def FpOk (X : Cx) (pins : List (Addr × Obj)) (H : Hp) (b : Addr) : Prop :=
  H b = none /\ b ≠ X.env.locals /\ b ∉ X.fs /\ (b ∈ X.ex ∨ X.s₀.heap.objs.size <= b) /\ (∀ x c, X.env.cells.lookup x = some c -> c ≠ b) /\ ∀ p ∈ X.pn ++ pins, p.1 ≠ b
theorem Inv.fpOk {X : Cx} {pins : List (Addr × Obj)} {σ : St} {H H' : Hp} {s : Shared} {b : Addr} (I : Inv X pins σ H s) (hb : s.heap.objs.size <= b) (hn : H' b = none) : FpOk X pins H' b := by
  refine ⟨hn, Nat.ne_of_gt (Nat.lt_of_lt_of_le I.lt hb), I.nofs hb, .inr (Nat.le_trans I.sz hb), fun x c e z => ?_, fun p hp z => ?_⟩
  · obtain ⟨v, q⟩ := I.cell x c e
    exact absurd (Nat.lt_of_lt_of_le q.lt (by rw [z]; exact hb)) (Nat.lt_irrefl _)
  · exact absurd (Nat.lt_of_lt_of_le (Heap.lt_size (I.pin p hp).1) (by rw [z]; exact hb)) (Nat.lt_irrefl _)
structure Turn (P : Program) (w : World) (K : PySem.W.Frag) (tg : Expr) (J : It) (fp : List Addr) (it : Addr) (tn : Nat -> Heap -> Prop) : Prop where
  mem : it ∈ fp
  obj : ∀ i h, tn i h -> ∀ b ∈ fp, ∃ o, h.get? b = some o /\ ∀ v, o.data ≠ .cell v
  keep : ∀ i h h', tn i h -> (∀ b ∈ fp, ∀ o, h.get? b = some o -> h'.get? b = some o) -> tn i h'
  item : ∀ (X : Cx), X.prog = P -> X.w = w -> X.K = K -> X.calm = true -> ∀ (i : Nat) (pins : List (Addr × Obj)) (s : Shared) (σ : St) (H : Hp) (E : Value -> Shared -> Prop), Inv X pins σ H s -> (∀ b ∈ fp, FpOk X pins H b) -> tn i s.heap -> J.go i H ->
    wpAny (model P w) X.A (pyNext (.ref it)) (fun r s1 => ∃ u, r = some u /\
      wpAny (model P w) X.A (letOwnedTupleGo tg (.ref it) u) (fun _ s2 => ∃ x H', Inv X pins σ H' s2 /\ RelV x u /\ J.yld i H x H' /\ tn (i + 1) s2.heap /\ ∀ b ∈ fp, H' b = none) E s1) E s
  done : ∀ (X : Cx), X.prog = P -> X.w = w -> X.K = K -> X.calm = true -> ∀ (i : Nat) (pins : List (Addr × Obj)) (s : Shared) (σ : St) (H : Hp) (E : Value -> Shared -> Prop), Inv X pins σ H s -> (∀ b ∈ fp, FpOk X pins H b) -> tn i s.heap -> J.stop i H ->
    wpAny (model P w) X.A (pyNext (.ref it)) (fun r s1 => r = none /\ Inv X pins σ H s1) E s
  self : ∀ (A : Around) (i : Nat) (s : Shared) (Q : Value -> Shared -> Prop) (E : Value -> Shared -> Prop), tn i s.heap -> Q (.ref it) s -> wpAny (model P w) A (pyIter (.ref it)) Q E s
abbrev TI := St -> Hp -> (It -> Hp -> Prop) -> Prop
def PIE (X : Cx) (pins : List (Addr × Obj)) (σ : St) (tg : Expr) (R : It -> Hp -> Prop) (itv : Value) (s2 : Shared) : Prop :=
  ∃ (it : Addr) (fp : List Addr) (tn : Nat -> Heap -> Prop) (J : It) (H' : Hp), itv = .ref it /\ Inv X pins σ H' s2 /\ Turn X.prog X.w X.K tg J fp it tn /\ tn 0 s2.heap /\ (∀ b ∈ fp, FpOk X pins H' b) /\ R J H'
def PI (X : Cx) (tg iter : Expr) (wi : TI) : Prop :=
  ∀ (pins : List (Addr × Obj)) (s : Shared) (σ : St) (H : Hp) (R : It -> Hp -> Prop), Inv X pins σ H s -> wi σ H R ->
    wpAny (model X.prog X.w) X.A (eval iter X.env) (fun v s1 => wpAny (model X.prog X.w) X.A (pyIter v) (PIE X pins σ tg R) X.xe s1) X.xe s
theorem go_of {M : Model} {A : Around} {E : Value -> Shared -> Prop} {s : Shared} {tg : Expr} {it : Addr} {u : Value} {o : Obj} {n : String} {vs : Array Value} {Q : Unit -> Shared -> Prop} (ho : s.heap.get? it = some o) (hc : o.cls = .type n) (hd : o.data = .fields vs)
    (hn : ["enumerate", "zip", "dict_itemiterator", "dict_reverseitemiterator", "odict_iterator", "itertools.zip_longest", "itertools.pairwise"].contains n = false) (hQ : Q () s) : wpAny M A (letOwnedTupleGo tg (.ref it) u) Q E s := by
  unfold letOwnedTupleGo
  cases tg <;> first
    | exact wpAny_pure hQ
    | (cases u <;> first
        | exact wpAny_pure hQ
        | (refine wpAny_bind (wpAny_load ho ?_)
           rw [hc, hd]
           show wpAny M A (if (["enumerate", "zip", "dict_itemiterator", "dict_reverseitemiterator", "odict_iterator", "itertools.zip_longest", "itertools.pairwise"].contains n && vs[0]? == some (rawInt _)) = true then _ else _) Q E s
           rw [if_neg (by intro h; rw [hn, Bool.false_and] at h; cases h)]
           exact wpAny_pure hQ))
def Itl (K : PySem.W.Frag) (a : Addr) : It :=
  ⟨fun i H => ∃ xs x, SqL K H a xs /\ xs[i]? = some x, fun i H x H' => H' = H /\ ∀ xs, SqL K H a xs -> xs[i]? = some x, fun i H => ∃ xs, SqL K H a xs /\ xs.length <= i⟩
def Itt (K : PySem.W.Frag) (a : Addr) : It :=
  ⟨fun i H => ∃ xs x, SqT K H a xs /\ xs[i]? = some x, fun i H x H' => H' = H /\ ∀ xs, SqT K H a xs -> xs[i]? = some x, fun i H => ∃ xs, SqT K H a xs /\ xs.length <= i⟩
def Itr (lo : Int) (n : Nat) : It := ⟨fun i _ => i < n, fun i H x H' => H' = H /\ x = .int (lo + i), fun i _ => n <= i⟩
theorem turn_list {P : Program} {w : World} {K : PySem.W.Frag} {tg : Expr} (a it : Addr) : Turn P w K tg (Itl K a) [it] it (fun i h => h.IsListIter it a i) where
  mem := by simp
  obj := fun i h st b hb => by
    have e : b = it := by simpa using hb
    subst e
    obtain ⟨o, e, c, d⟩ := st
    exact ⟨o, e, fun v z => by rw [d] at z; cases z⟩
  keep := fun i h h' st k => st.at fun o e => k it (by simp) o e
  item := by
    intro X hP hw hK hc i pins s σ H E I hf st hg
    subst hP hw hK
    obtain ⟨xs, x, hq, hx⟩ := hg
    obtain ⟨its, rv, p, hz⟩ := I.list hq
    obtain ⟨u, hu, ru⟩ := rv.get hx
    obtain ⟨f0, f1, f2, f3, f4, f5⟩ := hf it (by simp)
    refine wpAny_pyNext_list_item st p.isList (x := u) (by simpa using hu) fun h' st' sb => ?_
    have I1 : Inv X pins σ H { s with heap := h' } := I.turned (t' := s.toks) (fun b o hb e => (sb.2 b hb).trans e) f0 f1 f3 f4 f5
    obtain ⟨o, e, c, d⟩ := id st'
    exact ⟨u, rfl, go_of (s := { s with heap := h' }) e c d (by decide) ⟨x, H, I1, ru, ⟨rfl, fun ys hy => by rw [I.list_inj hy hq]; exact hx⟩, st', fun b hb => (hf b hb).1⟩⟩
  done := by
    intro X hP hw hK hc i pins s σ H E I hf st hg
    subst hP hw hK
    obtain ⟨xs, hq, hx⟩ := hg
    obtain ⟨its, rv, p, hz⟩ := I.list hq
    obtain ⟨f0, f1, f2, f3, f4, f5⟩ := hf it (by simp)
    have hl := rv.length
    exact wpAny_pyNext_list_end (I.ok.hd hc) st p.isList (by simp; omega) fun h' eb => ⟨rfl, I.turned (t' := s.toks) (fun b o hb e => eb b o hb e) f0 f1 f3 f4 f5⟩
  self := fun _ _ _ _ _ st h => wpAny_pyIter_listiter st h
theorem turn_tuple {P : Program} {w : World} {K : PySem.W.Frag} {tg : Expr} (a it : Addr) : Turn P w K tg (Itt K a) [it] it (fun i h => h.IsTupleIter it a i) where
  mem := by simp
  obj := fun i h st b hb => by
    have e : b = it := by simpa using hb
    subst e
    obtain ⟨o, e, c, d⟩ := st
    exact ⟨o, e, fun v z => by rw [d] at z; cases z⟩
  keep := fun i h h' st k => st.at fun o e => k it (by simp) o e
  item := by
    intro X hP hw hK hc i pins s σ H E I hf st hg
    subst hP hw hK
    obtain ⟨xs, x, hq, hx⟩ := hg
    obtain ⟨its, rv, p, hz⟩ := I.tuple hq
    obtain ⟨u, hu, ru⟩ := rv.get hx
    obtain ⟨f0, f1, f2, f3, f4, f5⟩ := hf it (by simp)
    refine wpAny_pyNext_tuple_item st (show s.heap.IsTuple a its.toArray from p) (x := u) (by simpa using hu) fun h' st' sb => ?_
    have I1 : Inv X pins σ H { s with heap := h' } := I.turned (t' := s.toks) (fun b o hb e => (sb.2 b hb).trans e) f0 f1 f3 f4 f5
    obtain ⟨o, e, c, d⟩ := id st'
    exact ⟨u, rfl, go_of (s := { s with heap := h' }) e c d (by decide) ⟨x, H, I1, ru, ⟨rfl, fun ys hy => by rw [I.tuple_inj hy hq]; exact hx⟩, st', fun b hb => (hf b hb).1⟩⟩
  done := by
    intro X hP hw hK hc i pins s σ H E I hf st hg
    subst hP hw hK
    obtain ⟨xs, hq, hx⟩ := hg
    obtain ⟨its, rv, p, hz⟩ := I.tuple hq
    obtain ⟨f0, f1, f2, f3, f4, f5⟩ := hf it (by simp)
    have hl := rv.length
    exact wpAny_pyNext_tuple_end (I.ok.hd hc) st (show s.heap.IsTuple a its.toArray from p) (by simp; omega) fun h' eb => ⟨rfl, I.turned (t' := s.toks) (fun b o hb e => eb b o hb e) f0 f1 f3 f4 f5⟩
  self := fun _ _ _ _ _ st h => wpAny_pyIter_tupleiter st h
theorem turn_range {P : Program} {w : World} {K : PySem.W.Frag} {tg : Expr} (it : Addr) (lo : Int) (n : Nat) : Turn P w K tg (Itr lo n) [it] it (fun i h => IsRangeIter h it (lo + (i : Nat) * 1) ((n : Int) - (i : Nat)) 1) where
  mem := by simp
  obj := fun i h st b hb => by
    have e : b = it := by simpa using hb
    subst e
    exact ⟨_, st, fun v z => by
      have z' : Data.fields _ = Data.cell v := z
      cases z'⟩
  keep := fun i h h' st k => k it (by simp) _ st
  item := by
    intro X hP hw hK hc i pins s σ H E I hf st hg
    subst hP hw hK
    obtain ⟨f0, f1, f2, f3, f4, f5⟩ := hf it (by simp)
    have W := Walks.range (prog := X.prog) (w := X.w) (I.ok.hd hc) it lo 1 n
    refine W.item i s _ _ hg st fun v h' tk hv st' kk => ?_
    obtain ⟨t, rfl⟩ := hv
    have I1 : Inv X pins σ H { s with heap := h', toks := tk } := I.turned (fun b o hb e => kk b o (by simpa using hb) e) f0 f1 f3 f4 f5
    refine ⟨_, rfl, go_of (s := { s with heap := h', toks := tk }) (n := "range_iterator") st' rfl rfl (by decide) ⟨.int (lo + i), H, I1, ⟨t, ?_⟩, ⟨rfl, rfl⟩, st', fun b hb => (hf b hb).1⟩⟩
    rw [Int.mul_one]
  done := by
    intro X hP hw hK hc i pins s σ H E I hf st hg
    subst hP hw hK
    obtain ⟨f0, f1, f2, f3, f4, f5⟩ := hf it (by simp)
    exact wpAny_pyNext_range_end (I.ok.hd hc) st (by have : n <= i := hg; omega) fun h' eb => ⟨rfl, I.turned (t' := s.toks) (fun b o hb e => eb b o hb e) f0 f1 f3 f4 f5⟩
  self := fun _ _ _ _ _ st h => wpAny_pyIter_rangeiter st h
end L2
namespace L2
open PySem PySem.Spec PyProof.Rows
section
variable {X : Cx} {tg : Expr}
theorem range_it {pins : List (Addr × Obj)} {σ : St} {H : Hp} {s : Shared} {R : It -> Hp -> Prop} {E : Value -> Shared -> Prop} {lo hi : Int} {t u v : Tok} {tk : Nat} (I : Inv X pins σ H s) (h1 : -(2 ^ 62) <= lo) (h2 : lo < 2 ^ 62) (h3 : -(2 ^ 62) <= hi) (h4 : hi < 2 ^ 62)
    (q : R (Itr lo (hi - lo).toNat) H) : wpAny (model X.prog X.w) X.A (pyIter (.ref s.heap.objs.size)) (PIE X pins σ tg R) E { s with heap := s.heap.push { cls := .type "range", data := .fields #[.int lo t, .int hi u, .int 1 v] }, toks := tk } := by
  refine wpAny_pyIter_range (IsRange.new ..) (small_one h1 h2 h3 h4) ?_
  have I1 : Inv X pins σ H { s with heap := s.heap.push { cls := .type "range", data := .fields #[.int lo t, .int hi u, .int 1 v] }, toks := tk } := I.kept fun b o e => Heap.get?_push_of_some _ e
  refine ⟨(s.heap.push { cls := .type "range", data := .fields #[.int lo t, .int hi u, .int 1 v] }).objs.size, [(s.heap.push { cls := .type "range", data := .fields #[.int lo t, .int hi u, .int 1 v] }).objs.size], _, _, H, rfl,
    I1.kept (t' := tk) fun b o e => Heap.get?_push_of_some _ e, turn_range _ lo (hi - lo).toNat, ?_, fun b hb => ?_, q⟩
  · have e1 : lo + ((0 : Nat) : Int) * 1 = lo := by simp
    have e2 : (((hi - lo).toNat : Nat) : Int) - ((0 : Nat) : Int) = Builtin.Range.rangeSize lo hi 1 := by rw [rangeSize_one]; split <;> omega
    show IsRangeIter _ _ (lo + ((0 : Nat) : Int) * 1) ((((hi - lo).toNat : Nat) : Int) - ((0 : Nat) : Int)) 1
    rw [e1, e2]
    exact Heap.get?_push_size _ rfl
  · have e : b = (s.heap.push { cls := .type "range", data := .fields #[.int lo t, .int hi u, .int 1 v] }).objs.size := by simpa using hb
    subst e
    exact I1.fpOk (Nat.le_refl _) (I1.hok.fresh (Nat.le_refl _))
def iRng1 (ta : TA) : TI := fun σ H R => ta σ H fun vs H1 => ∃ j : Int, vs = [.int j] /\ -(2 ^ 62) <= j /\ j < 2 ^ 62 /\ R (Itr 0 j.toNat) H1
theorem pi_range1 {a : Expr} {ta : TA} {p pos : Pos} (hg : Gl X "range") (hm : X.mg "range" = none) (ha : PA X [a] ta) (hs : starEach [a] X.env = [(false, eval a X.env)] := by rfl) : PI X tg (.Call (.Name "range" p) [a] [] pos) (iRng1 ta) := by
  intro pins s σ H R I h
  refine Call_ (ld_blt I hg hm boot_range (PyProof.Rows.callWith_type1 (thn (ha pos pins s σ H _ I h) fun us s1 ⟨vs, H1, I1, r1, q1⟩ => ?_) hs rfl))
  obtain ⟨j, e, q1, q2, q⟩ := q1
  subst e
  cases r1 with
  | cons r rr =>
    cases rr
    obtain ⟨t, rfl⟩ := r
    exact call_range_1 (range_it I1 (by omega) (by omega) q1 q2 (by simpa using q))
def tFor (wi : TI) (g : TG) (tb : TS) : TS := fun D σ H => wi σ H fun J H1 => ∃ W : Nat -> Nat -> St -> Hp -> Prop, (∃ m, W 0 m σ H1) /\ ∀ i m σ H, W i m σ H ->
  (J.stop i H /\ D.nx σ H) ∨ (J.go i H /\ ∃ N : St -> Hp -> Prop, (∀ σ' H', N σ' H' -> ∃ m', m' < m /\ W (i + 1) m' σ' H') /\ ∀ x H', J.yld i H x H' -> g x σ H' fun σ2 H2 => tb { D with nx := N, ct := N, bk := D.nx } σ2 H2)
def pinsAt (fp : List Addr) (h : Heap) : List (Addr × Obj) := fp.filterMap fun b => (h.get? b).map fun o => (b, o)
theorem mem_pinsAt {fp : List Addr} {h : Heap} {b : Addr} {o : Obj} (hb : b ∈ fp) (e : h.get? b = some o) : (b, o) ∈ pinsAt fp h := List.mem_filterMap.mpr ⟨b, hb, by rw [e]; rfl⟩
theorem of_pinsAt {fp : List Addr} {h : Heap} {p : Addr × Obj} (hp : p ∈ pinsAt fp h) : p.1 ∈ fp /\ h.get? p.1 = some p.2 := by
  obtain ⟨b, hb, e⟩ := List.mem_filterMap.mp hp
  cases q : h.get? b with
  | none => rw [q] at e; cases e
  | some o =>
    rw [q] at e
    have e' : (b, o) = p := Option.some.inj e
    subst e'
    exact ⟨hb, q⟩
theorem Inv.pinned {pins : List (Addr × Obj)} {σ : St} {H : Hp} {s : Shared} {fp : List Addr} (I : Inv X pins σ H s) (hf : ∀ b ∈ fp, FpOk X pins H b) (ho : ∀ b ∈ fp, ∃ o, s.heap.get? b = some o /\ ∀ v, o.data ≠ .cell v) : Inv X (pins ++ pinsAt fp s.heap) σ H s :=
  I.pins_of fun p hp => (List.mem_append.mp hp).elim (fun z => I.pin p (List.mem_append_right _ z)) fun z => by
    obtain ⟨hb, e⟩ := of_pinsAt z
    obtain ⟨f0, f1, f2, _⟩ := hf p.1 hb
    obtain ⟨o, e', d⟩ := ho p.1 hb
    rw [e] at e'; cases e'
    exact ⟨e, f0, f1, f2, d⟩
theorem Inv.unpinned {pins pl : List (Addr × Obj)} {σ : St} {H : Hp} {s : Shared} (I : Inv X (pins ++ pl) σ H s) : Inv X pins σ H s := I.pins_of fun p hp => I.pin p (List.mem_append_right _ (List.mem_append_left _ hp))
theorem ps_for {iter : Expr} {body : List Stmt} {wi : TI} {g : TG} {tb : TS} {pos : Pos} (hp : PassesOwn (model X.prog X.w) X.A X.env X.xe) (hc : X.calm = true) (hi : PI X tg iter wi) (hg : PG X tg g) (hb : PSs X body tb)
    (hs : ∀ x, foldedSetIterable iter X.env x = pure x := by intro _; rfl) : PS X (.For tg iter body [] pos) (tFor wi g tb) := by
  intro pins s σ H D I h
  refine wpAny_For (thn (hi pins s σ H _ I h) fun v s1 h1 => thn h1 fun itv s2 h2 => ?_) hs
  obtain ⟨it, fp, tn, J, H2, e, I2, T, st2, f2, W, ⟨m0, w0⟩, turn⟩ := h2
  subst e
  -- what stays true of the iterator's objects through the loop
  have stat : ∀ {H' : Hp}, (∀ b ∈ fp, H' b = none) -> ∀ b ∈ fp, FpOk X pins H' b := fun hn b hb => ⟨hn b hb, (f2 b hb).2⟩
  refine codeAny_forLoop_any (fun n s' => ∃ i σ' H', Inv X pins σ' H' s' /\ tn i s'.heap /\ (∀ b ∈ fp, H' b = none) /\ W i n σ' H') ?_ m0 ⟨0, σ, H2, I2, st2, fun b hb => (f2 b hb).1, w0⟩
  rintro n s3 ⟨i, σ3, H3, I3, st3, fr3, w3⟩
  rcases turn i n σ3 H3 w3 with ⟨stop, qn⟩ | ⟨go, N, hN, step⟩
  · refine wpAny_passesOwn hp (thn (T.done X rfl rfl rfl hc i pins s3 σ3 H3 X.xe I3 (stat fr3) st3 stop) fun r s4 ⟨hr, I4⟩ => ?_)
    subst hr
    exact wpAny_execs_nil ⟨σ3, H3, I4, qn⟩
  · refine wpAny_passesOwn hp (thn (T.item X rfl rfl rfl hc i pins s3 σ3 H3 X.xe I3 (stat fr3) st3 go) fun r s4 ⟨u, hr, h4⟩ => ?_)
    subst hr
    refine wpAny_passesOwn hp (thn h4 fun _ s5 ⟨x, H5, I5, r5, y5, st5, fr5⟩ => ?_)
    have I5' := I5.pinned (stat fr5) (T.obj _ _ st5)
    refine wpAny_passesOwn hp (thn (hg _ s5 σ3 H5 x u _ I5' r5 (step x H5 y5)) fun _ s6 ⟨σ6, H6, I6, q6⟩ => ?_)
    refine wpAny_passesOwn hp (thn (hb _ s6 σ6 H6 _ I6 q6) fun f s7 q7 => ?_)
    have again : ∀ {σ7 : St} {H7 : Hp}, Inv X (pins ++ pinsAt fp s5.heap) σ7 H7 s7 -> N σ7 H7 -> ∃ m, m < n /\ ∃ i σ' H', Inv X pins σ' H' s7 /\ tn i s7.heap /\ (∀ b ∈ fp, H' b = none) /\ W i m σ' H' := fun {σ7 H7} I7 n7 => by
      obtain ⟨m', hm, w7⟩ := hN σ7 H7 n7
      refine ⟨m', hm, i + 1, σ7, H7, I7.unpinned, T.keep _ _ _ st5 fun b hb o e => (I7.pin (b, o) (List.mem_append_right _ (List.mem_append_right _ (mem_pinsAt hb e)))).1, fun b hb => ?_, w7⟩
      obtain ⟨o, e, d⟩ := T.obj _ _ st5 b hb
      exact (I7.pin (b, o) (List.mem_append_right _ (List.mem_append_right _ (mem_pinsAt hb e)))).2.1
    cases f with
    | next => obtain ⟨σ7, H7, I7, n7⟩ := q7; exact again I7 n7
    | cont => obtain ⟨σ7, H7, I7, n7⟩ := q7; exact again I7 n7
    | brk => obtain ⟨σ7, H7, I7, q7⟩ := q7; exact ⟨σ7, H7, I7.unpinned, q7⟩
    | ret v => obtain ⟨x7, σ7, H7, I7, r7, q7⟩ := q7; exact ⟨x7, σ7, H7, I7.unpinned, r7, q7⟩
end
end L2
namespace L2
open PySem PySem.Spec PyProof.Rows
abbrev R2 := V -> V -> Hp -> VK -> Prop
def OpR (X : Cx) (f : Value -> Value -> Sem Value) (r : R2) : Prop :=
  ∀ (pins : List (Addr × Obj)) (s : Shared) (σ : St) (H : Hp) (x y : V) (v u : Value) (Q : VK), Inv X pins σ H s -> RelV x v -> RelV y u -> r x y H Q ->
    wpAny (model X.prog X.w) X.A (f v u) (EP X pins σ Q) X.xe s
def UnR (X : Cx) (f : Value -> Sem Value) (r : V -> Hp -> VK -> Prop) : Prop :=
  ∀ (pins : List (Addr × Obj)) (s : Shared) (σ : St) (H : Hp) (x : V) (v : Value) (Q : VK), Inv X pins σ H s -> RelV x v -> r x H Q ->
    wpAny (model X.prog X.w) X.A (f v) (EP X pins σ Q) X.xe s
def CallR (X : Cx) (f : Value) (r : List V -> Hp -> VK -> Prop) : Prop :=
  ∀ (pins : List (Addr × Obj)) (s : Shared) (σ : St) (H : Hp) (xs : List V) (us : List Value) (Q : VK), Inv X pins σ H s -> Vals xs us -> r xs H Q ->
    wpAny (model X.prog X.w) X.A (call f us) (EP X pins σ Q) X.xe s
def TruR (X : Cx) (r : V -> Hp -> (Bool -> Hp -> Prop) -> Prop) : Prop :=
  ∀ (pins : List (Addr × Obj)) (s : Shared) (σ : St) (H : Hp) (x : V) (v : Value) (Q : Bool -> Hp -> Prop), Inv X pins σ H s -> RelV x v -> r x H Q ->
    wpAny (model X.prog X.w) X.A (truthy v) (TP X pins σ Q) X.xe s
def tOp (r : R2) (ta tb : TE) : TE := fun σ H Q => ta σ H fun x H1 => tb σ H1 fun y H2 => r x y H2 Q
def tUn (r : V -> Hp -> VK -> Prop) (ta : TE) : TE := fun σ H Q => ta σ H fun x H1 => r x H1 Q
def rI (C : Int -> Int -> Prop) (g : Int -> Int -> V) : R2 := fun x y H Q => ∃ i j, x = .int i /\ y = .int j /\ C i j /\ Q (g i j) H
def rI0 (g : Int -> Int -> V) : R2 := fun x y H Q => ∃ i j, x = .int i /\ y = .int j /\ Q (g i j) H
def rU (g : Int -> V) : V -> Hp -> VK -> Prop := fun x H Q => ∃ i, x = .int i /\ Q (g i) H
section
variable {X : Cx} {a b c : Expr} {ta tb tc : TE} {pos : Pos}
theorem binT (ha : PE X a ta) (hb : PE X b tb) {pins : List (Addr × Obj)} {s : Shared} {σ : St} {H : Hp} {R : V -> V -> Hp -> Prop} (I : Inv X pins σ H s)
    (h : ta σ H fun x H1 => tb σ H1 fun y H2 => R x y H2) {Q : Value -> Shared -> Prop} {f : Value -> Value -> Sem Value}
    (hf : ∀ v u s2 x y H2, Inv X pins σ H2 s2 -> RelV x v -> RelV y u -> R x y H2 -> wpAny (model X.prog X.w) X.A (f v u) Q X.xe s2) :
    wpAny (model X.prog X.w) X.A (eval a X.env) (fun v s₁ => wpAny (model X.prog X.w) X.A (eval b X.env) (fun u s₂ => wpAny (model X.prog X.w) X.A (f v u) Q X.xe s₂) X.xe s₁) X.xe s := by
  refine thn (ha pins s σ H _ I h) fun v s1 ⟨x, H1, I1, r1, q1⟩ => ?_
  refine thn (hb pins s1 σ H1 _ I1 q1) fun u s2 ⟨y, H2, I2, r2, q2⟩ => ?_
  exact hf v u s2 x y H2 I2 r1 r2 q2
theorem pe_op {op : Operator} {r : R2} (ho : OpR X (binaryOp op) r) (ha : PE X a ta) (hb : PE X b tb) : PE X (.BinOp a op b pos) (tOp r ta tb) := by
  intro pins s σ H Q I h
  exact wpAny_BinOp (binT ha hb I h fun v u s2 x y H2 I2 rx ry q => ho pins s2 σ H2 x y v u Q I2 rx ry q)
theorem pe_un {op : UnaryOp} {r : V -> Hp -> VK -> Prop} (ho : UnR X (unaryOp op) r) (ha : PE X a ta) : PE X (.UnaryOp op a pos) (tUn r ta) := by
  intro pins s σ H Q I h
  exact UnaryOp_ (thn (ha pins s σ H _ I h) fun v s1 ⟨x, H1, I1, r1, q1⟩ => ho pins s1 σ H1 x v Q I1 r1 q1)
theorem opI {f : Value -> Value -> Sem Value} {C : Int -> Int -> Prop} {g : Int -> Int -> Int}
    (rule : ∀ (i j : Int) (t u : Tok) (s : Shared) (Q : Value -> Shared -> Prop) (E : Value -> Shared -> Prop), C i j -> Q (.int (g i j) s.toks) { s with toks := s.toks + 1 } -> wpAny (model X.prog X.w) X.A (f (.int i t) (.int j u)) Q E s) :
    OpR X f (rI C fun i j => .int (g i j)) := by
  intro pins s σ H x y v u Q I rx ry h
  obtain ⟨i, j, rfl, rfl, hc, q⟩ := h
  obtain ⟨t, rfl⟩ := rx
  obtain ⟨t', rfl⟩ := ry
  exact rule i j t t' s _ _ hc ⟨.int (g i j), H, I.tok _, ⟨_, rfl⟩, q⟩
theorem opI0 {f : Value -> Value -> Sem Value} {g : Int -> Int -> Int}
    (rule : ∀ (i j : Int) (t u : Tok) (s : Shared) (Q : Value -> Shared -> Prop) (E : Value -> Shared -> Prop), Q (.int (g i j) s.toks) { s with toks := s.toks + 1 } -> wpAny (model X.prog X.w) X.A (f (.int i t) (.int j u)) Q E s) :
    OpR X f (rI0 fun i j => .int (g i j)) := by
  intro pins s σ H x y v u Q I rx ry h
  obtain ⟨i, j, rfl, rfl, q⟩ := h
  obtain ⟨t, rfl⟩ := rx
  obtain ⟨t', rfl⟩ := ry
  exact rule i j t t' s _ _ ⟨.int (g i j), H, I.tok _, ⟨_, rfl⟩, q⟩
theorem opB0 {f : Value -> Value -> Sem Value} {g : Int -> Int -> Bool}
    (rule : ∀ (i j : Int) (t u : Tok) (s : Shared) (Q : Value -> Shared -> Prop) (E : Value -> Shared -> Prop), Q (.bool (g i j)) s -> wpAny (model X.prog X.w) X.A (f (.int i t) (.int j u)) Q E s) :
    OpR X f (rI0 fun i j => .bl (g i j)) := by
  intro pins s σ H x y v u Q I rx ry h
  obtain ⟨i, j, rfl, rfl, q⟩ := h
  obtain ⟨t, rfl⟩ := rx
  obtain ⟨t', rfl⟩ := ry
  exact rule i j t t' s _ _ ⟨.bl (g i j), H, I, rfl, q⟩
def CDiv (i j : Int) : Prop := 0 < j /\ j < 1073741824
theorem op_add : OpR X (binaryOp .Add) (rI0 fun i j => .int (i + j)) := opI0 fun _ _ _ _ _ _ _ q => add_int q
theorem op_sub : OpR X (binaryOp .Sub) (rI0 fun i j => .int (i - j)) := opI0 fun _ _ _ _ _ _ _ q => sub_int q
theorem op_fdiv : OpR X (binaryOp .FloorDiv) (rI CDiv fun i j => .int (i / j)) := opI fun i j _ _ _ _ _ hc q => by
  have h1 : (0 : Int) < j := hc.1
  have h2 : j < 1073741824 := hc.2
  exact floordiv_int (by omega) (by rw [Int.fdiv_eq_ediv_of_nonneg i (by omega)]; exact q) (.inl (PyProof.noPylong_small (by omega)))
theorem op_mod : OpR X (binaryOp .Mod) (rI (fun _ j => 0 < j) fun i j => .int (i % j)) := opI fun i j _ _ _ _ _ hc q => by
  have h1 : (0 : Int) < j := hc
  exact mod_int' (by omega) (by rw [Int.fmod_eq_emod_of_nonneg i (by omega)]; exact q)
theorem op_modN : OpR X (binaryOp .Mod) (rI (fun _ j => j ≠ 0) fun i j => .int (i.fmod j)) := opI fun _ _ _ _ _ _ _ hc q => mod_int' hc q
theorem unI {f : Value -> Sem Value} {g : Int -> Int}
    (rule : ∀ (i : Int) (t : Tok) (s : Shared) (Q : Value -> Shared -> Prop) (E : Value -> Shared -> Prop), Q (.int (g i) s.toks) { s with toks := s.toks + 1 } -> wpAny (model X.prog X.w) X.A (f (.int i t)) Q E s) :
    UnR X f (rU fun i => .int (g i)) := by
  intro pins s σ H x v Q I rx h
  obtain ⟨i, rfl, q⟩ := h
  obtain ⟨t, rfl⟩ := rx
  exact rule i t s _ _ ⟨.int (g i), H, I.tok _, ⟨_, rfl⟩, q⟩
theorem un_neg : UnR X (unaryOp .USub) (rU fun i => .int (-i)) := unI fun _ _ _ _ _ q => neg_int q
end
def scal : V -> V -> Bool
  | .non, .non => true | .non, .int _ => true | .int _, .non => true | .non, .bl _ => true | .bl _, .non => true | .non, .str _ => true | .str _, .non => true
  | .int _, .int _ => true | .bl _, .bl _ => true | .str _, .str _ => true | .byt _, .byt _ => true
  | .int _, .str _ => true | .str _, .int _ => true | .bl _, .str _ => true | .str _, .bl _ => true
  | _, _ => false
def rEq : R2 := fun x y H Q => scal x y = true /\ Q (.bl (decide (x = y))) H
def rNe : R2 := fun x y H Q => scal x y = true /\ Q (.bl (!decide (x = y))) H
theorem dec_int {i j : Int} : decide (V.int i = V.int j) = (i == j) := by
  rw [Bool.eq_iff_iff]
  simp
theorem dec_bl {i j : Bool} : decide (V.bl i = V.bl j) = (i == j) := by
  rw [Bool.eq_iff_iff]
  simp
theorem dec_str {i j : Str} : decide (V.str i = V.str j) = (i == j) := by
  rw [Bool.eq_iff_iff]
  simp
theorem dec_byt {i j : Array UInt8} : decide (V.byt i = V.byt j) = (i.toList == j.toList) := by
  rw [Bool.eq_iff_iff]
  cases i
  cases j
  simp
section
variable {X : Cx} {a b c : Expr} {ta tb tc : TE} {pos : Pos}
theorem fin_bl {pins : List (Addr × Obj)} {σ : St} {H : Hp} {s : Shared} {Q : VK} {k k' : Bool} (I : Inv X pins σ H s) (q : Q (.bl k) H) (e : k = k') : EP X pins σ Q (.bool k') s := by
  subst e
  exact ⟨.bl k, H, I, rfl, q⟩
theorem op_eq : OpR X (compareOp .Eq) rEq := by
  intro pins s σ H x y v u Q I rx ry h
  obtain ⟨hs, q⟩ := h
  cases x with
  | non =>
    cases rx
    cases y with
    | non => cases ry; exact PySem.EqNone.eq_none_none (fin_bl I q (by simp))
    | bl j => cases ry; exact PySem.EqNone.eq_none_bool (fin_bl I q (by simp))
    | int j => obtain ⟨t', rfl⟩ := ry; exact PySem.EqNone.eq_none_int (fin_bl I q (by simp))
    | str j => obtain ⟨t', rfl⟩ := ry; exact PySem.EqNone.eq_none_str (fin_bl I q (by simp))
    | _ => exact absurd (show false = true from hs) Bool.false_ne_true
  | bl i =>
    cases rx
    cases y with
    | non => cases ry; exact PySem.EqNone.eq_bool_none (fin_bl I q (by simp))
    | bl j => cases ry; exact eq_bool (fin_bl I q dec_bl)
    | str j => obtain ⟨t', rfl⟩ := ry; exact PySem.EqMixed.eq_bool_str (fin_bl I q (by simp))
    | _ => exact absurd (show false = true from hs) Bool.false_ne_true
  | int i =>
    obtain ⟨t, rfl⟩ := rx
    cases y with
    | non => cases ry; exact PySem.EqNone.eq_int_none (fin_bl I q (by simp))
    | int j => obtain ⟨t', rfl⟩ := ry; exact eq_int (fin_bl I q dec_int)
    | str j => obtain ⟨t', rfl⟩ := ry; exact PySem.EqMixed.eq_int_str (fin_bl I q (by simp))
    | _ => exact absurd (show false = true from hs) Bool.false_ne_true
  | str i =>
    obtain ⟨t, rfl⟩ := rx
    cases y with
    | non => cases ry; exact PySem.EqNone.eq_str_none (fin_bl I q (by simp))
    | bl j => cases ry; exact PySem.EqMixed.eq_str_bool (fin_bl I q (by simp))
    | int j => obtain ⟨t', rfl⟩ := ry; exact PySem.EqMixed.eq_str_int (fin_bl I q (by simp))
    | str j => obtain ⟨t', rfl⟩ := ry; exact eq_str (fin_bl I q dec_str)
    | _ => exact absurd (show false = true from hs) Bool.false_ne_true
  | byt i =>
    obtain ⟨t, rfl⟩ := rx
    cases y with
    | byt j => obtain ⟨t', rfl⟩ := ry; exact PySem.W.eq_bytes (fin_bl I q dec_byt)
    | _ => exact absurd (show false = true from hs) Bool.false_ne_true
  | _ => cases y <;> exact absurd (show false = true from hs) Bool.false_ne_true
theorem op_ne : OpR X (compareOp .NotEq) rNe := by
  intro pins s σ H x y v u Q I rx ry h
  obtain ⟨hs, q⟩ := h
  cases x with
  | non =>
    cases rx
    cases y with
    | non => cases ry; exact PySem.EqNone.ne_none_none (fin_bl I q (by simp))
    | bl j => cases ry; exact PySem.EqNone.ne_none_bool (fin_bl I q (by simp))
    | int j => obtain ⟨t', rfl⟩ := ry; exact PySem.EqNone.ne_none_int (fin_bl I q (by simp))
    | str j => obtain ⟨t', rfl⟩ := ry; exact PySem.EqNone.ne_none_str (fin_bl I q (by simp))
    | _ => exact absurd (show false = true from hs) Bool.false_ne_true
  | bl i =>
    cases rx
    cases y with
    | non => cases ry; exact PySem.EqNone.ne_bool_none (fin_bl I q (by simp))
    | bl j => cases ry; exact ne_bool (fin_bl I q (congrArg not dec_bl))
    | str j => obtain ⟨t', rfl⟩ := ry; exact PySem.EqMixed.ne_bool_str (fin_bl I q (by simp))
    | _ => exact absurd (show false = true from hs) Bool.false_ne_true
  | int i =>
    obtain ⟨t, rfl⟩ := rx
    cases y with
    | non => cases ry; exact PySem.EqNone.ne_int_none (fin_bl I q (by simp))
    | int j => obtain ⟨t', rfl⟩ := ry; exact ne_int (fin_bl I q (congrArg not dec_int))
    | str j => obtain ⟨t', rfl⟩ := ry; exact PySem.EqMixed.ne_int_str (fin_bl I q (by simp))
    | _ => exact absurd (show false = true from hs) Bool.false_ne_true
  | str i =>
    obtain ⟨t, rfl⟩ := rx
    cases y with
    | non => cases ry; exact PySem.EqNone.ne_str_none (fin_bl I q (by simp))
    | bl j => cases ry; exact PySem.EqMixed.ne_str_bool (fin_bl I q (by simp))
    | int j => obtain ⟨t', rfl⟩ := ry; exact PySem.EqMixed.ne_str_int (fin_bl I q (by simp))
    | str j => obtain ⟨t', rfl⟩ := ry; exact ne_str (fin_bl I q (congrArg not dec_str))
    | _ => exact absurd (show false = true from hs) Bool.false_ne_true
  | byt i =>
    obtain ⟨t, rfl⟩ := rx
    cases y with
    | byt j => obtain ⟨t', rfl⟩ := ry; exact PySem.W.ne_bytes (fin_bl I q (congrArg not dec_byt))
    | _ => exact absurd (show false = true from hs) Bool.false_ne_true
  | _ => cases y <;> exact absurd (show false = true from hs) Bool.false_ne_true
theorem op_lt : OpR X (compareOp .Lt) (rI0 fun i j => .bl (decide (i < j))) := opB0 fun _ _ _ _ _ _ _ q => lt_int q
theorem op_le : OpR X (compareOp .LtE) (rI0 fun i j => .bl (decide (i <= j))) := opB0 fun _ _ _ _ _ _ _ q => le_int q
theorem op_gt : OpR X (compareOp .Gt) (rI0 fun i j => .bl (decide (j < i))) := opB0 fun _ _ _ _ _ _ _ q => gt_int q
theorem op_ge : OpR X (compareOp .GtE) (rI0 fun i j => .bl (decide (j <= i))) := opB0 fun _ _ _ _ _ _ _ q => ge_int q
theorem op_isN : OpR X (compareOp .Is) (fun x y H Q => y = .non /\ Q (.bl (decide (x = .non))) H) := by
  intro pins s σ H x y v u Q I rx ry h
  obtain ⟨rfl, q⟩ := h
  cases ry
  refine is_none_gen (fin_bl I q ?_)
  cases x <;> first
    | (cases rx; rfl)
    | (obtain ⟨t, rfl⟩ := rx; rfl)
theorem op_notN : OpR X (compareOp .IsNot) (fun x y H Q => y = .non /\ Q (.bl (!decide (x = .non))) H) := by
  intro pins s σ H x y v u Q I rx ry h
  obtain ⟨rfl, q⟩ := h
  cases ry
  refine isnot_none_gen (fin_bl I q ?_)
  cases x <;> first
    | (cases rx; rfl)
    | (obtain ⟨t, rfl⟩ := rx; rfl)
theorem OpR.or {f : Value -> Value -> Sem Value} {r r' : R2} (h : OpR X f r) (h' : OpR X f r') : OpR X f (fun x y H Q => r x y H Q ∨ r' x y H Q) := by
  intro pins s σ H x y v u Q I rx ry q
  rcases q with q | q
  · exact h pins s σ H x y v u Q I rx ry q
  · exact h' pins s σ H x y v u Q I rx ry q
theorem nomark (b : Expr) {op : CmpOp} (h : op ≠ .In := by decide) (h2 : op ≠ .NotIn := by decide) : behindInMarks op b = false := by
  have e1 : (op == CmpOp.In) = false := by cases op <;> first | rfl | exact absurd rfl h
  have e2 : (op == CmpOp.NotIn) = false := by cases op <;> first | rfl | exact absurd rfl h2
  cases b <;> simp [behindInMarks, e1, e2]
theorem pe_cmpR {op : CmpOp} {r : R2} (ho : OpR X (compareOp op) r) (ha : PE X a ta) (hb : PE X b tb) (hm : behindInMarks op b = false) : PE X (.Compare a [op] [b] pos) (tOp r ta tb) := by
  intro pins s σ H Q I h
  exact wpAny_Compare1 (binT ha hb I h fun v u s2 x y H2 I2 rx ry q => ho pins s2 σ H2 x y v u Q I2 rx ry q) hm
def tTest (t : TE) : TT := fun σ H Q => t σ H fun x H' => ∃ k, x = .bl k /\ Q k H'
theorem pt_cmpR {op : CmpOp} {r : R2} (ho : OpR X (compareOp op) r) (ha : PE X a ta) (hb : PE X b tb) (hm : behindInMarks op b = false) : PT X (.Compare a [op] [b] pos) (tTest (tOp r ta tb)) := by
  intro pins s σ H Q I h
  refine wpAny_isTrue_Compare1 (thn (ha pins s σ H _ I h) fun v s1 ⟨x, H1, I1, r1, q1⟩ => thn (hb pins s1 σ H1 _ I1 q1) fun u s2 ⟨y, H2, I2, r2, q2⟩ =>
    thn (ho pins s2 σ H2 x y v u _ I2 r1 r2 q2) fun c s3 ⟨z, H3, I3, r3, k, e, q3⟩ => ?_) hm
  subst e
  cases r3
  exact wpAny_truthy_bool ⟨H3, I3, q3⟩
def TruV (K : PySem.W.Frag) (x : V) (H : Hp) (k : Bool) : Prop :=
  match x with
  | .non => k = false
  | .bl b => k = b
  | .int i => k = (i != 0)
  | .str y => y.length <= sizeLine /\ k = ((y.length : Int) != 0)
  | .byt y => y.size <= sizeLine /\ k = ((y.size : Int) != 0)
  | .ref p => (∃ xs, SqL K H p xs /\ k = !xs.isEmpty) ∨ (∃ xs, SqT K H p xs /\ k = !xs.isEmpty) ∨ ∃ kvs, H p = some (.dK kvs) /\ k = !kvs.isEmpty
  | _ => False
theorem isEmpty_kv {κ : Type} {kvs : List (κ × V)} {vs : List (κ × Value)} (r : KV kvs vs) : (!vs.isEmpty) = !kvs.isEmpty := by
  cases r <;> rfl
theorem isEmpty_of {xs : List V} {its : List Value} (r : Vals xs its) : (!its.toArray.isEmpty) = !xs.isEmpty := by
  cases r <;> simp
theorem line63 : (sizeLine : Nat) < 2 ^ 63 := by rw [sizeLine_eq]; decide
theorem tru_ok : TruR X (fun x H Q => ∃ k, TruV X.K x H k /\ Q k H) := by
  intro pins s σ H x v Q I rx h
  obtain ⟨k, e, q⟩ := h
  have hl := line63
  have hs : sizeLine = 16777216 := sizeLine_eq
  cases x with
  | non =>
    cases rx
    have e' : k = false := e
    subst e'
    exact truthy_none ⟨H, I, q⟩
  | bl b =>
    cases rx
    have e' : k = b := e
    subst e'
    exact wpAny_truthy_bool ⟨H, I, q⟩
  | int i =>
    obtain ⟨t, rfl⟩ := rx
    have e' : k = (i != 0) := e
    subst e'
    exact PySem.P.truthy_int ⟨H, I, q⟩
  | str y =>
    obtain ⟨t, rfl⟩ := rx
    obtain ⟨hy, e'⟩ : y.length <= sizeLine /\ k = ((y.length : Int) != 0) := e
    subst e'
    exact PySem.P.truthy_str (by omega) ⟨H, I.tok _, q⟩
  | byt y =>
    obtain ⟨t, rfl⟩ := rx
    obtain ⟨hy, e'⟩ : y.size <= sizeLine /\ k = ((y.size : Int) != 0) := e
    subst e'
    exact PySem.W.truthy_bytes (by omega) ⟨H, I.tok _, q⟩
  | ref p =>
    cases rx
    have e' : (∃ xs, SqL X.K H p xs /\ k = !xs.isEmpty) ∨ (∃ xs, SqT X.K H p xs /\ k = !xs.isEmpty) ∨ ∃ kvs, H p = some (.dK kvs) /\ k = !kvs.isEmpty := e
    rcases e' with ⟨xs, hx, e'⟩ | ⟨xs, hx, e'⟩ | ⟨kvs, hx, e'⟩
    · subst e'
      obtain ⟨its, r, pl, hz⟩ := I.list hx
      have hlen := r.length
      exact wpAny_truthy_list pl.isList (by simp only [List.size_toArray]; omega) ⟨H, I.tok _, by rw [isEmpty_of r]; exact q⟩
    · subst e'
      obtain ⟨its, r, pl, hz⟩ := I.tuple hx
      have hlen := r.length
      exact truthy_tuple pl (by simp only [List.size_toArray]; omega) ⟨H, I.tok _, by rw [isEmpty_of r]; exact q⟩
    · subst e'
      obtain ⟨hz, hS, vs, r, m⟩ : kvs.length <= sizeLine /\ (p == sysModules) = false /\ ∃ vs, KV kvs vs /\ s.heap.DictOf (mixKind X.prog X.w) p vs := I.hok p _ hx
      have hlen : kvs.length = vs.length := Paired.length r
      exact wpAny_truthy_dict hS m (by omega) ⟨H, I.tok _, by rw [isEmpty_kv r]; exact q⟩
  | _ => exact (show False from e).elim
theorem pt_truth (ha : PE X a ta) (he : ∀ whole, isTrue a X.env whole = (do let v ← whole; standAt a.pos; holding [v] (truthy v))) :
    PT X a (fun σ H Q => ta σ H fun x H' => ∃ k, TruV X.K x H' k /\ Q k H') := by
  intro pins s σ H Q I h
  exact isTrue_plain (thn (ha pins s σ H _ I h) fun v s1 ⟨x, H1, I1, r1, q1⟩ => tru_ok pins s1 σ H1 x v Q I1 r1 q1) (he _)
theorem op_add_str : OpR X (binaryOp .Add) (fun x y H Q => ∃ i j, x = .str i /\ y = .str j /\ i.length + j.length <= sizeLine /\ Q (.str (i ++ j)) H) := by
  intro pins s σ H x y v u Q I rx ry h
  obtain ⟨i, j, rfl, rfl, hz, q⟩ := h
  obtain ⟨t, rfl⟩ := rx
  obtain ⟨t', rfl⟩ := ry
  exact add_str (fun t' tk => ⟨.str (i ++ j), H, I.tok _, ⟨_, rfl⟩, q⟩) hz
theorem vals1 {x : V} {us : List Value} (r : Vals [x] us) : ∃ u, us = [u] /\ RelV x u := by
  cases r with
  | cons r1 r2 => cases r2; exact ⟨_, rfl, r1⟩
theorem vals2 {x y : V} {us : List Value} (r : Vals [x, y] us) : ∃ u w', us = [u, w'] /\ RelV x u /\ RelV y w' := by
  cases r with
  | cons r1 r2 =>
    cases r2 with
    | cons r3 r4 => cases r4; exact ⟨_, _, rfl, r1, r3⟩
theorem call_abs : CallR X (.builtin "abs") (fun xs H Q => ∃ i, xs = [.int i] /\ Q (.int (if i < 0 then -i else i)) H) := by
  intro pins s σ H xs us Q I r h
  obtain ⟨i, rfl, q⟩ := h
  obtain ⟨u, rfl, t, rfl⟩ := vals1 r
  exact call_abs_int fun u tk => ⟨.int (if i < 0 then -i else i), H, I.tok _, ⟨_, rfl⟩, q⟩
theorem call_int1 : CallR X (.type "int") (fun xs H Q => (∃ i, xs = [.int i] /\ Q (.int i) H) ∨ ∃ k, xs = [.bl k] /\ Q (.int (if k then 1 else 0)) H) := by
  intro pins s σ H xs us Q I r h
  rcases h with ⟨i, rfl, q⟩ | ⟨k, rfl, q⟩
  · obtain ⟨u, rfl, t, rfl⟩ := vals1 r
    exact call_int_int ⟨.int i, H, I, ⟨_, rfl⟩, q⟩
  · obtain ⟨u, rfl, r1⟩ := vals1 r
    cases r1
    exact call_int_bool ⟨.int (if k then 1 else 0), H, I.tok _, ⟨_, rfl⟩, q⟩
end
end L2
namespace L2
open PySem PySem.Spec PyProof.Rows
structure ObjM (h : Heap) (x dx C : Addr) (mA : Str -> Option Value) : Prop where
  obj : h.get? x = some (PySem.W.instObj C dx)
  ns : h.Ns1 dx mA
  ne : dx ≠ x
theorem lookIn_ns {h : Heap} {dx : Addr} {mA : Str -> Option Value} (n : h.Ns1 dx mA) : ∃ od, h.get? dx = some od /\ ∀ name, PySem.W.lookIn name od = some (mA name) := by
  obtain ⟨o, es, ep, ho, hd, hk, _, hm⟩ := n
  refine ⟨o, ho, fun name => ?_⟩
  have e := hm name
  unfold nsFind findBy at e
  rw [← Array.find?_toList] at e
  unfold PySem.W.lookIn
  rw [hd]
  dsimp only
  split
  · rename_i y q
    rw [q] at e
    exact congrArg some e
  · rename_i q
    rw [q] at e
    have a : es.toList.any (·.refKey) = false := by
      rw [List.any_eq_false]
      intro y hy
      obtain ⟨z, t, hkey⟩ := hk y (Array.mem_toList_iff.mp hy)
      simp [DictEntry.refKey, hkey]
    have a' : ¬ es.toList.any (·.refKey) = true := by rw [a]; exact Bool.false_ne_true
    rw [if_neg a']
    exact congrArg some e
theorem ObjM.look {h : Heap} {x dx C : Addr} {mA : Str -> Option Value} (I : ObjM h x dx C mA) : ∃ od, PySem.W.InstAt h x (PySem.W.instObj C dx) C (some od) /\ ∀ name, PySem.W.lookIn name od = some (mA name) :=
  let ⟨od, ho, hl⟩ := lookIn_ns I.ns
  ⟨od, ⟨I.obj, rfl, rfl, ho⟩, hl⟩
section
variable {prog : Program} {w : World} {A : Around} {E : Value -> Shared -> Prop} {s : Shared} {K : PySem.W.Frag} {x dx C f : Addr} {mA : Str -> Option Value} {name : Str} {v : Value}
end
theorem RelO.some_of {v : V} {o : Option Value} (r : RelO (some v) o) : ∃ u, o = some u /\ RelV v u := by
  cases o with
  | none => exact (show False from r).elim
  | some u => exact ⟨u, rfl, r⟩
section
variable {P : Program} {w : World} {H H' : Hp} {h h' : Heap} {a C dx : Addr} {fs fs' : List (Str × V)}
theorem ins_get (hok : HOk P w H h) (e : H a = some (.ins C dx fs)) : ∃ mA, ObjM h a dx C mA /\ (∀ f, RelO (fs.lookup f) (mA f)) /\ PySem.Within mA (fs.map (·.1)) /\ fs.length <= 1000 /\ H dx = some (.own a) := by
  obtain ⟨d, z, ne, ob, mA, n, r, q⟩ := (show ObjOk P w H h a (.ins C dx fs) from hok a _ e)
  exact ⟨mA, ⟨ob, n, ne⟩, r, q, z, d⟩
end
structure Cls (K : PySem.W.Frag) (C : Addr) : Prop where
  pg : PySem.W.plainGet K C Str.empty = true
  hd : PySem.W.hasDictIn K C = true
  po : PySem.W.plainOver K C = true
  sa : PySem.W.findIn K (.ref C) "__setattr__" = some (some (.builtin "object.__setattr__"))
theorem Cls.get {K : PySem.W.Frag} {C : Addr} (c : Cls K C) (f : Str) : PySem.W.plainGet K C f = true := c.pg
section
variable {X : Cx} {pins : List (Addr × Obj)} {σ : St} {H : Hp} {s : Shared} {a C dx : Addr} {fs : List (Str × V)} {f : Str} {v : V} {A : Around} {E : Value -> Shared -> Prop}
end
section
variable {X : Cx} {o e value : Expr} {f : Str} {pos pos' tpos : Pos} {ta tv : TE}
end
section
variable {X : Cx} {pins : List (Addr × Obj)} {σ : St} {H : Hp} {s : Shared} {A : Around} {E : Value -> Shared -> Prop} {Q : Value -> Shared -> Prop} {c : Value} {b : Bool}
inductive TyOf (K : PySem.W.Frag) (H : Hp) : V -> Value -> Prop where
  | non : TyOf K H .non (.type "NoneType")
  | bl (x : Bool) : TyOf K H (.bl x) (.type "bool")
  | int (i : Int) : TyOf K H (.int i) (.type "int")
  | str (x : Str) : TyOf K H (.str x) (.type "str")
  | flt (x : UInt64) : TyOf K H (.flt x) (.type "float")
  | lst {a : Addr} {xs : List V} (e : H a = some (.lst xs)) : TyOf K H (.ref a) (.type "list")
  | frz {a : Addr} {o : Obj} {xs : List V} (e : H a = some (.frz o (.lst xs))) : TyOf K H (.ref a) (.type "list")
  | tup {a : Addr} {xs : List V} (e : H a = some (.tup xs)) : TyOf K H (.ref a) (.type "tuple")
  | dK {a : Addr} {kvs : List (Key × V)} (e : H a = some (.dK kvs)) : TyOf K H (.ref a) (.type "dict")
  | dT {a : Addr} {kvs : List (List Key × V)} (e : H a = some (.dT kvs)) : TyOf K H (.ref a) (.type "dict")
  | ins {a C dx : Addr} {fs : List (Str × V)} (e : H a = some (.ins C dx fs)) (cl : Cls K C) (ha : PySem.W.findIn K (.ref C) "__class__" = some (some (.builtin "object.__class__")))
      (hn : PySem.W.specialIn K (.builtin "object.__class__") "__get__" = some (some (.builtin "getset_descriptor.__get__"))) (htk : PySem.W.takesIn K (.builtin "object.__class__") = some true)
      (hm : PySem.W.mroIn K C (.type "object") = some true) : TyOf K H (.ref a) (.ref C)
theorem isinst_ok {x : V} {u t : Value} (I : Inv X pins σ H s) (rx : RelV x u) (ty : TyOf X.K H x t) (e : PySem.W.kitOne X.K t c = some b) (h : ∀ tk, Q (.bool b) { s with toks := tk }) :
    wpAny (model X.prog X.w) A (call (.builtin "isinstance") [u, c]) Q E s := by
  cases ty with
  | non => cases (show u = Value.none from rx); exact PySem.W.kia_one PySem.W.kitx_none I.kIn True.intro e (fun z => nomatch z) h
  | bl y => cases (show u = Value.bool y from rx); exact PySem.W.kia_one PySem.W.kitx_bool I.kIn True.intro e (fun z => nomatch z) h
  | int i => obtain ⟨t, q⟩ := (show ∃ t, u = Value.int i t from rx); cases q; exact PySem.W.kia_one PySem.W.kitx_int I.kIn True.intro e (fun z => nomatch z) h
  | str y => obtain ⟨t, q⟩ := (show ∃ t, u = Value.str y t from rx); cases q; exact PySem.W.kia_one PySem.W.kitx_str I.kIn True.intro e (fun z => nomatch z) h
  | flt y => obtain ⟨t, q⟩ := (show ∃ t, u = Value.float y t from rx); cases q; exact PySem.W.kia_one PySem.W.kitx_float I.kIn True.intro e (fun z => nomatch z) h
  | @lst a xs ea =>
    cases (show u = Value.ref a from rx)
    obtain ⟨_, _, n, _, h1⟩ := (show ObjOk X.prog X.w H s.heap a (.lst xs) from I.hok a _ ea)
    exact PySem.W.kia_one PySem.W.kitx_list I.kIn ⟨_, h1, rfl⟩ e (fun z => nomatch z) h
  | @frz a ob xs ea =>
    cases (show u = Value.ref a from rx)
    obtain ⟨_, _, _, n, _, h1⟩ := (show ObjOk X.prog X.w H s.heap a (.frz ob (.lst xs)) from I.hok a _ ea)
    exact PySem.W.kia_one PySem.W.kitx_list I.kIn ⟨_, h1, rfl⟩ e (fun z => nomatch z) h
  | @tup a xs ea =>
    cases (show u = Value.ref a from rx)
    obtain ⟨_, _, _, p⟩ := (show ObjOk X.prog X.w H s.heap a (.tup xs) from I.hok a _ ea)
    obtain ⟨o, h1, h2, _⟩ := p
    exact PySem.W.kia_one PySem.W.kitx_tuple I.kIn ⟨o, h1, h2.1⟩ e (fun z => nomatch z) h
  | @dK a kvs ea =>
    cases (show u = Value.ref a from rx)
    obtain ⟨_, _, vs, _, p⟩ := (show ObjOk X.prog X.w H s.heap a (.dK kvs) from I.hok a _ ea)
    obtain ⟨o, es, ep, h1, h2, _⟩ := p
    exact PySem.W.kia_one PySem.W.kitx_dict I.kIn ⟨o, h1, h2.1⟩ e (fun z => nomatch z) h
  | @dT a kvs ea =>
    cases (show u = Value.ref a from rx)
    obtain ⟨_, _, xs, _, o, es, ep, h1, h2, _⟩ := (show ObjOk X.prog X.w H s.heap a (.dT kvs) from I.hok a _ ea)
    exact PySem.W.kia_one PySem.W.kitx_dict I.kIn ⟨o, h1, h2.1⟩ e (fun z => nomatch z) h
  | @ins a C dx fs ea cl ha hn htk hm =>
    cases (show u = Value.ref a from rx)
    obtain ⟨mA, O, _⟩ := ins_get I.hok ea
    obtain ⟨od, J, _⟩ := O.look
    exact PySem.W.kia_one (PySem.W.kitx_own (cl.get _) cl.hd ha hn htk hm) I.kIn J e (fun z => nomatch z) h
end
end L2
namespace L2
open PySem PySem.Spec PyProof.Rows
structure Room (k : Nat) (A : Around) : Prop where
  hd : A.handled = none
  dp : A.depth + 3 * k + 5 < recursionLimit
  un : A.units + 16 * k + 200 < cLine
  gd : A.guards = some []
theorem Room.mono {j k : Nat} {A : Around} (r : Room k A) (h : j <= k) : Room j A := ⟨r.hd, by have := r.dp; omega, by have := r.un; omega, r.gd⟩
theorem Room.deeper {k : Nat} {A : Around} (r : Room (k + 1) A) (env : Env) : Room k (A.deeper env) :=
  ⟨r.hd, by have := r.dp; show A.depth + 1 + 3 * k + 5 < _; omega, by have := r.un; show A.units + 3 + 16 * k + 200 < _; omega, r.gd⟩
theorem Room.depth {k : Nat} {A : Around} (r : Room k A) : A.depth < recursionLimit := by have := r.dp; omega
theorem Room.units {k : Nat} {A : Around} (r : Room k A) : A.units + 64 < cLine := by have := r.un; omega
def tNil : TA := fun _ H Q => Q [] H
def tCons (ta : TE) (tr : TA) : TA := fun σ H Q => ta σ H fun x H1 => tr σ H1 fun xs H2 => Q (x :: xs) H2
section
variable {X : Cx} {e : Expr} {es : List Expr} {te : TE} {t : TA} {pos : Pos}
theorem pa_nil : PA X [] tNil := fun _ _ _ _ H Q I h => Calls.spliced_nil ⟨[], H, I, .nil, h⟩
theorem pa_cons (ha : PE X e te) (hr : PA X es t) (hs : starEach (e :: es) X.env = (false, eval e X.env) :: starEach es X.env := by rfl) : PA X (e :: es) (tCons te t) := by
  intro pos pins s σ H Q I h
  rw [hs]
  show wpAny _ _ (spliced ((false, eval e X.env) :: backTo pos (starEach es X.env))) _ _ s
  refine Calls.spliced_cons (thn (ha pins s σ H _ I h) fun u s1 ⟨x, H1, I1, r1, q1⟩ => ?_)
  exact thn (hr pos pins s1 σ H1 _ I1 q1) fun us s2 ⟨xs, H2, I2, r2, q2⟩ => ⟨x :: xs, H2, I2, .cons r1 r2, q2⟩
def tTup (t : TA) : TE := fun σ H Q => t σ H fun xs H1 => xs.length <= sizeLine /\ ∀ p, H1 p = none -> Q (.ref p) (upd H1 p (.tup xs))
def tLst (t : TA) : TE := fun σ H Q => t σ H fun xs H1 => xs.length <= sizeLine /\ ∀ p, H1 p = none -> Q (.ref p) (upd H1 p (.lst xs))
theorem pe_tup {x1} (h : PA X es t) : PE X (.Tuple es x1 pos) (tTup t) := by
  intro pins s σ H Q I hq
  refine wpAny_Tuple_spliced (thn (h pos pins s σ H _ I hq) fun us s1 ⟨xs, H1, I1, r, z, q⟩ => ⟨by rw [← r.length]; exact z, ?_⟩)
  have hf : H1 s1.heap.objs.size = none := I1.hok.fresh (Nat.le_refl _)
  refine ⟨.ref s1.heap.objs.size, upd H1 s1.heap.objs.size (.tup xs), I1.laid (t' := s1.toks) (fun b u e => Heap.get?_push_of_some _ e) (Nat.le_refl _) ?_, rfl, q _ hf⟩
  exact ⟨z, us, r, IsTupN.new _ _⟩
theorem pe_lst (h : PA X es t) : PE X (.List es pos) (tLst t) := by
  intro pins s σ H Q I hq
  refine wpAny_List_spliced (thn (h pos pins s σ H _ I hq) fun us s1 ⟨xs, H1, I1, r, z, q⟩ => ⟨by rw [← r.length]; exact z, ?_⟩)
  have hf : H1 s1.heap.objs.size = none := I1.hok.fresh (Nat.le_refl _)
  refine ⟨.ref s1.heap.objs.size, upd H1 s1.heap.objs.size (.lst xs), I1.laid (t' := s1.toks) (fun b u e => Heap.get?_push_of_some _ e) (Nat.le_refl _) ?_, rfl, q _ hf⟩
  exact ⟨z, us, 0, r, Heap.get?_push_size _ rfl⟩
end
abbrev Sp := List V -> Hp -> VK -> XK -> Prop
abbrev CXT := List Env -> Hp -> Shared -> XK -> Value -> Shared -> Prop
structure Env0 (P : Program) (w : World) (K : PySem.W.Frag) (mg : Str -> Option Value) (base : Heap) (A : Around) (outer : List Env) (s : Shared) (H : Hp) : Prop where
  frames : A.frames = some outer
  mod : Mod K mg base
  bs : ∀ b o, base.get? b = some o -> s.heap.get? b = some o /\ H b = none
  bsz : base.objs.size <= s.heap.objs.size
  funs : s.heap.FunFrames base outer
  frf : ∀ b ∈ frs outer, H b = none
  hok : HOk P w H s.heap
  bare : AllBare s.gens
def CE (outer : List Env) (P : Program) (w : World) (H : Hp) (s : Shared) (Q : VK) (u : Value) (s' : Shared) : Prop :=
  ∃ v H', s'.os = s.os /\ AllBare s'.gens /\ Un (frs outer) [] H H' s.heap s'.heap /\ HOk P w H' s'.heap /\ RelV v u /\ Q v H'
def CR (CX : CXT) (outer : List Env) (P : Program) (w : World) (H : Hp) (s : Shared) (Q : VK) (E : XK) (r : Result) (s' : Shared) : Prop :=
  match r with
  | .ok (.ret u) => CE outer P w H s Q u s'
  | .ok _ => False
  | .error e => CX outer H s E e s'
structure FnOk (P : Program) (w : World) (K : PySem.W.Frag) (mg : Str -> Option Value) (base : Heap) (CX : CXT) (k : Nat) (f : Addr) (fd : FuncData) (ps : List Str) (sp : Sp) : Prop where
  len : ∀ vs H Q E, sp vs H Q E -> vs.length = ps.length
  run : ∀ (A : Around) (outer : List Env) (s : Shared) (H : Hp) (args : Args) (us : List Value) (vs : List V) (Q : VK) (E : XK), Room k A -> Env0 P w K mg base A outer s H -> BindsTo s fd args (ps.zip us) -> Vals vs us -> sp vs H Q E ->
    codeAny (model P w) A (.call (.ref f) args) (CR CX outer P w H s Q E) s
theorem FnOk.mono {P : Program} {w : World} {K : PySem.W.Frag} {mg : Str -> Option Value} {base : Heap} {CX : CXT} {j k : Nat} {f : Addr} {fd : FuncData} {ps : List Str} {sp : Sp} (F : FnOk P w K mg base CX j f fd ps sp) (h : j <= k) :
    FnOk P w K mg base CX k f fd ps sp := ⟨F.len, fun A outer s H args us vs Q E hr => F.run A outer s H args us vs Q E (hr.mono h)⟩
theorem FnOk.imp {P : Program} {w : World} {K : PySem.W.Frag} {mg : Str -> Option Value} {base : Heap} {CX : CXT} {k : Nat} {f : Addr} {fd : FuncData} {ps : List Str} {sp sp' : Sp} (F : FnOk P w K mg base CX k f fd ps sp)
    (h : ∀ vs H Q E, sp' vs H Q E -> sp vs H Q E) : FnOk P w K mg base CX k f fd ps sp' :=
  ⟨fun vs H Q E q => F.len vs H Q E (h _ _ _ _ q), fun A outer s H args us vs Q E hr he hb hv hs => F.run A outer s H args us vs Q E hr he hb hv (h _ _ _ _ hs)⟩
section
variable {X : Cx} {pins : List (Addr × Obj)} {σ : St} {H : Hp} {s s' : Shared}
theorem Inv.env0 (I : Inv X pins σ H s) : Env0 X.prog X.w X.K X.mg X.base X.A X.stack s H :=
  ⟨I.ok.frames, I.ok.mod, I.bs, Nat.le_trans I.ok.bsz I.sz, I.stack, I.stkFree, I.hok, I.bare⟩
theorem Inv.after {Q : VK} {u : Value} (I : Inv X pins σ H s) (h : CE X.stack X.prog X.w H s Q u s') : EP X pins σ Q u s' := by
  obtain ⟨v, H', os, bare, un, hok, r, q⟩ := h
  obtain ⟨hh, g, d, t, os'⟩ := s'
  obtain rfl : os' = s.os := os
  exact ⟨v, H', I.call (h' := hh) (g' := g) (d' := d) (t' := t) (ch := []) un hok bare (fun b z => absurd z (by simp)), r, q⟩
end
def Binds (K : PySem.W.Frag) (fd : FuncData) (ps : List Str) (ds : List Value) : Prop :=
  ∀ (s : Shared) (us : List Value), K.In s.heap -> (us ++ ds).length = ps.length -> BindsTo s fd ⟨us, []⟩ (ps.zip (us ++ ds))
theorem Binds.all {K : PySem.W.Frag} {fd : FuncData} {ps : List Str} (h : ∀ us : List Value, us.length = ps.length -> bindArgs fd ⟨us, []⟩ = pure (ps.zip us)) : Binds K fd ps [] := fun s us _ hl => by
  rw [List.append_nil] at hl ⊢
  exact .of_eq (h us hl)
section
variable {X : Cx} {CX : CXT} {k : Nat} {f C : Addr} {fd : FuncData} {ps : List Str} {sp : Sp} {dvs : List V} {ds : List Value} {E : XK} {x m : Str} {p pos apos : Pos} {e o : Expr} {es : List Expr} {ta : TE} {t : TA}
end
section
variable {X : Cx} {CX : CXT} {k : Nat} {f C : Addr} {fd : FuncData} {ps ks : List Str} {sp : Sp} {E : XK} {x m : Str} {p pos apos kpos : Pos} {e o : Expr} {es : List Expr} {kws : List Keyword} {te ta : TE} {t tk : TA} {nm : Option Str}
variable {g : List Value -> List Value -> List Value} {gV : List V -> List V -> List V}
end
structure FnScope (N P : List Str) (sc : Scope) : Prop where
  kind : sc.kind = .function
  co : sc.isCoroutine = false
  gen : sc.isGenerator = false
  nd : N.Nodup
  pre : N.take P.length = P
  par : ∀ x ∈ P, sc.names.lookup x = some .local ∨ sc.names.lookup x = some .cell
  nofree : ∀ y ∈ sc.names, y.2 ≠ .free
theorem bindL_out {kindOf : Str -> Option NameKind} {x : Str} : ∀ {binds : List (Str × Value)} {m : Str -> Option Value}, (∀ v, (x, v) ∉ binds) -> bindL kindOf binds m x = m x
  | [], _, _ => rfl
  | (n, v) :: r, m, h => by
    unfold bindL
    rw [bindL_out fun w hw => h w (List.mem_cons_of_mem _ hw)]
    split
    · have : x ≠ n := by rintro rfl; exact h v List.mem_cons_self
      simp [this]
    · rfl
theorem bindC_out {kindOf : Str -> Option NameKind} {x : Str} : ∀ {binds : List (Str × Value)} {m : Str -> Option Value}, (∀ v, (x, v) ∉ binds) -> bindC kindOf binds m x = m x
  | [], _, _ => rfl
  | (n, v) :: r, m, h => by
    unfold bindC
    rw [bindC_out fun w hw => h w (List.mem_cons_of_mem _ hw)]
    split
    · rfl
    · have : x ≠ n := by rintro rfl; exact h v List.mem_cons_self
      simp [this]
theorem bindL_get {kindOf : Str -> Option NameKind} {x : Str} {v : Value} : ∀ {P : List Str} {vs : List Value} {i : Nat} {m : Str -> Option Value}, P.Nodup -> P[i]? = some x -> vs[i]? = some v -> kindOf x = some .local ->
    bindL kindOf (P.zip vs) m x = some v
  | [], _, _, _, _, h, _, _ => by simp at h
  | _ :: _, [], _, _, _, _, h, _ => by simp at h
  | p :: P, w :: vs, 0, m, nd, h1, h2, hk => by
    simp at h1 h2; subst h1; subst h2
    show bindL kindOf ((p, w) :: P.zip vs) m p = _
    unfold bindL
    rw [bindL_out fun v hv => (List.nodup_cons.mp nd).1 (List.of_mem_zip hv).1, if_pos hk]
    simp
  | p :: P, w :: vs, i + 1, m, nd, h1, h2, hk => by
    show bindL kindOf ((p, w) :: P.zip vs) m x = _
    unfold bindL
    exact bindL_get (i := i) (List.nodup_cons.mp nd).2 (by simpa using h1) (by simpa using h2) hk
theorem bindC_get {kindOf : Str -> Option NameKind} {x : Str} {v : Value} : ∀ {P : List Str} {vs : List Value} {i : Nat} {m : Str -> Option Value}, P.Nodup -> P[i]? = some x -> vs[i]? = some v -> kindOf x ≠ some .local ->
    bindC kindOf (P.zip vs) m x = some v
  | [], _, _, _, _, h, _, _ => by simp at h
  | _ :: _, [], _, _, _, _, h, _ => by simp at h
  | p :: P, w :: vs, 0, m, nd, h1, h2, hk => by
    simp at h1 h2; subst h1; subst h2
    show bindC kindOf ((p, w) :: P.zip vs) m p = _
    unfold bindC
    rw [bindC_out fun v hv => (List.nodup_cons.mp nd).1 (List.of_mem_zip hv).1, if_neg hk]
    simp
  | p :: P, w :: vs, i + 1, m, nd, h1, h2, hk => by
    show bindC kindOf ((p, w) :: P.zip vs) m x = _
    unfold bindC
    exact bindC_get (i := i) (List.nodup_cons.mp nd).2 (by simpa using h1) (by simpa using h2) hk
def start (N : List Str) (vs : List V) : St := vs.map some ++ List.replicate (N.length - vs.length) none
def cxOf (CX : CXT) (P : Program) (w : World) (K : PySem.W.Frag) (mg : Str -> Option Value) (base : Heap) (N : List Str) (qual : Str) (scope : Scope) (f : Addr) (cd : Value) (A : Around) (outer : List Env) (s : Shared) (H : Hp) (E : XK) : Cx where
  prog := P
  w := w
  K := K
  mg := mg
  base := base
  A := A.deeper (envOfC qual scope s.heap.objs.size f cd)
  N := N
  s₀ := s
  H₀ := H
  env := envOfC qual scope s.heap.objs.size f cd
  outer := outer
  stack := envOfC qual scope s.heap.objs.size f cd :: outer
  ex := []
  calm := true
  fn := fun _ => true
  pn := []
  xe := fun e s' => wpAny (model P w) (A.deeper (envOfC qual scope s.heap.objs.size f cd)) (leaving (envOfC qual scope s.heap.objs.size f cd) e) (fun _ s'' => CX outer H s E e s'') (fun e' s'' => CX outer H s E e' s'') s'
theorem cell_has {sc : Scope} {n : Nat} {x : Str} (h : sc.names.lookup x = some .cell) : ∃ c, (cellsFrom n sc.names []).lookup x = some c := by
  have q := PySem.W.cellsFrom_some sc.names n [] (.inl h)
  exact Option.isSome_iff_exists.mp q
theorem inv_start {CX : CXT} {P : Program} {w : World} {K : PySem.W.Frag} {mg : Str -> Option Value} {base : Heap} {N ps : List Str} {qual : Str} {scope : Scope} {f : Addr} {cd : Value} {A : Around} {outer : List Env} {s s1 : Shared} {H : Hp} {E : XK} {us : List Value} {vs : List V}
    (S : FnScope N ps scope) (hd : A.handled = none) (e0 : Env0 P w K mg base A outer s H) (hl : vs.length = ps.length) (r : Vals vs us)
    (x : InCallC s s.heap.objs.size (bindL (envOfC qual scope s.heap.objs.size f cd).kindOf (ps.zip us) fun _ => none) (cellsFrom (s.heap.objs.size + 1) scope.names []) (bindC (envOfC qual scope s.heap.objs.size f cd).kindOf (ps.zip us) fun _ => none) s1) :
    Inv (cxOf CX P w K mg base N qual scope f cd A outer s H E) [] (start N vs) H s1 := by
  have hpl : ps.length <= N.length := by have := congrArg List.length S.pre; rw [List.length_take] at this; omega
  obtain ⟨h1, tk, rfl, hk⟩ := x.done
  have noA : ∀ b : Addr, b ∉ (cxOf CX P w K mg base N qual scope f cd A outer s H E).ex := fun b z => absurd (show b ∈ ([] : List Addr) from z) (by simp)
  refine ⟨⟨e0.mod, S.kind, rfl, rfl, Nat.le_refl _, fun y z c h1 h2 => ?_, fun y hy => ?_, fun y c _ h => ?_, fun _ => hd, Around.frames_deeper e0.frames, .inr ⟨rfl, rfl⟩, fun b z => absurd z (noA b), e0.bs, e0.bsz, fun b _ _ => noA b, fun b z => absurd z (noA b), e0.funs, e0.frf⟩,
    rfl, e0.bare, Un.kept hk, ⟨_, x.toInCall.ns, fun i y v h1 h2 h3 => ?_⟩, fun y c h => ⟨_, x.cell y c h⟩, e0.hok.fresh (Nat.le_refl _), fun y c h => ?_, fun p hp => absurd (show p ∈ ([] : List (Addr × Obj)) from hp) (by simp), e0.hok.kept hk, ?_⟩
  · exact name_of_addr x.apart (PySem.mem_of_lookup h1) (PySem.mem_of_lookup h2)
  · have hy : scope.names.lookup y = some .cell ∨ scope.names.lookup y = some .free := hy
    rcases hy with hy | hy
    · exact cell_has hy
    · exact absurd rfl (S.nofree _ (PySem.mem_of_lookup hy))
  · exact Nat.le_of_lt (x.above y c (PySem.mem_of_lookup h))
  · have hi : i < vs.length := by
      unfold start at h2
      by_cases hi : i < vs.length
      · exact hi
      · rw [List.getElem?_append_right (by simpa using hi)] at h2
        rw [List.getElem?_replicate] at h2
        split at h2 <;> cases h2
    have ha : vs[i]? = some v := by
      unfold start at h2
      rw [List.getElem?_append_left (by simpa using hi), List.getElem?_map] at h2
      cases e : vs[i]? with
      | none => rw [e] at h2; cases h2
      | some a => rw [e] at h2; cases h2; rfl
    obtain ⟨u, hu, rv⟩ := r.get ha
    have hp : ps[i]? = some y := by
      rw [← S.pre, List.getElem?_take_of_lt (by omega)]; exact h1
    have ndP : ps.Nodup := by rw [← S.pre]; exact S.nd.sublist (List.take_sublist _ _)
    refine ⟨u, rv, ?_⟩
    rcases S.par y (List.mem_of_getElem? hp) with k | k
    · exact .inl ⟨k, bindL_get ndP hp hu k⟩
    · obtain ⟨c, e⟩ := cell_has (n := s.heap.objs.size + 1) k
      refine .inr ⟨.inl k, c, e, ?_⟩
      have q := x.cell y c e
      rw [bindC_get ndP hp hu (by show scope.names.lookup y ≠ _; rw [k]; decide)] at q
      exact q
  · exact e0.hok.fresh (Nat.le_of_lt (x.above y c (PySem.mem_of_lookup h)))
  · unfold start
    show _ = N.length
    rw [List.length_append, List.length_map, List.length_replicate]
    omega
theorem fn_of {CX : CXT} {P : Program} {w : World} {K : PySem.W.Frag} {mg : Str -> Option Value} {base : Heap} {k : Nat} {f : Addr} {name qual : Str} {params : Arguments} {body : List Stmt} {scope : Scope} {dV kV doc pm cdv ct oc : Value} {an od : Option Addr}
    {osl : Array (Option Value)} {N ps : List Str} {sp : Sp} (lk : K.lookup f = some ⟨oc, od, .func (PySem.W.fnOf name qual params body scope dV kV doc pm an cdv ct), osl⟩) (hcd : PySem.W.codeIn K cdv qual = true) (S : FnScope N ps scope)
    (len : ∀ vs H Q E, sp vs H Q E -> vs.length = ps.length)
    (hbody : ∀ (A : Around) (outer : List Env) (s : Shared) (H : Hp) (vs : List V) (Q : VK) (E : XK), Room k (A.deeper (envOfC qual scope s.heap.objs.size f cdv)) -> sp vs H Q E ->
      ∃ t, PSs (cxOf CX P w K mg base N qual scope f cdv A outer s H E) body t /\ t { nx := fun _ H' => Q .non H', rt := Q } (start N vs) H) :
    FnOk P w K mg base CX (k + 1) f (PySem.W.fnOf name qual params body scope dV kV doc pm an cdv ct) ps sp := by
  refine ⟨len, fun A outer s H args us vs Q E hr e0 hb r hsp => ?_⟩
  have hl := len _ _ _ _ hsp
  have KX : K.In s.heap := e0.mod.kin.keeps fun b o e => (e0.bs b o e).1
  have lim : s.heap.NoLimit := e0.mod.nolimit.keeps fun b o e => (e0.bs b o e).1
  have hkind : ∀ y ∈ ps.zip us, scope.names.lookup y.1 = some .local ∨ (scope.names.lookup y.1 = some .cell /\ ((cellsFrom (s.heap.objs.size + 1) scope.names []).lookup y.1).isSome = true) := fun ⟨n, v⟩ hy => by
    rcases S.par n (List.of_mem_zip hy).1 with q | q
    · exact .inl q
    · exact .inr ⟨q, PySem.W.cellsFrom_some _ _ _ (.inl q)⟩
  refine codeAny_call_function hr.depth (KX _ _ lk) rfl S.co S.gen rfl (PySem.W.codeRec_of KX hcd) (hb _ _ _ _ ?_)
  refine wpAny_newFunctionEnv_cells S.kind hkind fun env he s1 x => ?_
  subst he
  refine ⟨lim.keeps x.toInCall.keep, codeAny_func ?_⟩
  obtain ⟨t, ht, hq⟩ := hbody A outer s H vs Q E (hr.deeper _) hsp
  have I : Inv (cxOf CX P w K mg base N qual scope f cdv A outer s H E) [] (start N vs) H s1 := inv_start S hr.hd e0 hl r x
  refine wpAny_mono (ht [] s1 (start N vs) H _ I hq) (fun fl s' hs => ?_) fun e s' hs => hs
  have fin : ∀ {σ' : St} {H' : Hp} {v : V} {u : Value}, Inv (cxOf CX P w K mg base N qual scope f cdv A outer s H E) [] σ' H' s' -> RelV v u -> Q v H' -> CE outer P w H s Q u s' :=
    fun {σ' H' v u} J rv q => ⟨v, H', J.os, J.bare, J.base, J.hok, rv, q⟩
  cases fl with
  | ret u =>
    obtain ⟨v, σ', H', J, rv, q⟩ := hs
    exact fin J rv q
  | next =>
    obtain ⟨σ', H', J, q⟩ := hs
    exact fin (v := V.non) (u := Value.none) J rfl q
  | brk =>
    obtain ⟨_, _, _, q⟩ := hs
    exact False.elim q
  | cont =>
    obtain ⟨_, _, _, q⟩ := hs
    exact False.elim q
end L2
namespace L2
open PySem PySem.Spec PyProof.Rows
section
variable {X : Cx} {x : Str} {p pos : Pos} {e : Expr} {es : List Expr} {t : TA} {id T : String} {r : List V -> Hp -> VK -> Prop}
def tCB (r : List V -> Hp -> VK -> Prop) (t : TA) : TE := fun σ H Q => t σ H fun vs H1 => r vs H1 Q
theorem pe_callB (hc : CallR X (.builtin id) r) (hg : Gl X x) (hm : X.mg x = none) (hv : bootBuiltins x = some (.builtin id)) (ha : PA X (e :: es) t) (hn : x ≠ "__name__" := by decide) (hdb : (x == ("__debug__" : Str)) = false := by decide)
    (he : starEach (e :: es) X.env = (false, eval e X.env) :: starEach es X.env := by rfl) (hpl : (backTo pos (starEach es X.env)).any (·.1) = false := by rfl) : PE X (.Call (.Name x p) (e :: es) [] pos) (tCB r t) := by
  intro pins s σ H Q I h
  refine wpAny_Call_Name_kw (ld_blt I hg hm hv ?_ hn hdb)
  exact PyProof.Rows.callWith_builtin1 (thn (ha pos pins s σ H _ I h) fun us s1 ⟨vs, H1, I1, r1, q1⟩ => hc pins s1 σ H1 vs us Q I1 r1 q1) he hpl
theorem pe_callTy (hc : CallR X (.type T) r) (hg : Gl X x) (hm : X.mg x = none) (hv : bootBuiltins x = some (.type T)) (ha : PA X (e :: es) t) (hn : x ≠ "__name__" := by decide) (hdb : (x == ("__debug__" : Str)) = false := by decide)
    (he : starEach (e :: es) X.env = (false, eval e X.env) :: starEach es X.env := by rfl) (hpl : (backTo pos (starEach es X.env)).any (·.1) = false := by rfl) : PE X (.Call (.Name x p) (e :: es) [] pos) (tCB r t) := by
  intro pins s σ H Q I h
  refine wpAny_Call_Name_kw (ld_blt I hg hm hv ?_ hn hdb)
  exact PyProof.Rows.callWith_type1 (thn (ha pos pins s σ H _ I h) fun us s1 ⟨vs, H1, I1, r1, q1⟩ => hc pins s1 σ H1 vs us Q I1 r1 q1) he hpl
end
end L2
set_option Elab.async false
set_option linter.all false
set_option maxRecDepth 100000
namespace HT
open PySem PyProof.Rows
section
open PySem.SeqAt
open PySem.AutoSeq1 (wpAny_loadPart')
open PySem.MeetsSeq PySem.MeetsSeq2 PySem.MeetsSeq3
end
section
variable {prog : Program} {w : World} {A : Around} {E : Value -> Shared -> Prop} {s : Shared}
theorem cat_tup {t b : Addr} {vs ws : List Value} {Q : Value -> Shared -> Prop} (ht : IsTup s.heap t vs.toArray) (hb : IsTup s.heap b ws.toArray) (hv : vs ≠ [])
    (h1 : ws = [] -> Q (.ref t) s) (h2 : ws ≠ [] -> Q (.ref s.heap.objs.size) { s with heap := s.heap.push { cls := .type "tuple", data := .seq (vs ++ ws).toArray } })
    (hsz : vs.length + ws.length <= sizeLine) : wpAny (model prog w) A (binaryOp .Add (.ref t) (.ref b)) Q E s := by
  obtain ⟨⟨cls, dd, data, sl⟩, ho, hc, n, hd⟩ := id ht
  obtain ⟨⟨cls2, dd2, data2, sl2⟩, ho2, hc2, n2, hd2⟩ := id hb
  simp only at hc hd hc2 hd2
  subst hc hd hc2 hd2
  have e : vs.toArray ++ ws.toArray = (vs ++ ws).toArray := by simp
  by_cases hw : ws = []
  · exact concat_meets ⟨_, ho, rfl⟩ ⟨_, ho2, rfl⟩ noFill_tuple_add seq_tuple_add PySem.F.slot_tuple_add PySem.F.entry_tuple_add (PySem.F.args_tuple_add_2 _ _)
      (tuple_addW1 t b vs.toArray ws.toArray n n2 dd dd2 sl sl2 (by simpa using hv) (by simp [hw])) ⟨ho, ho2, h1 hw⟩
  · refine concat_meets ⟨_, ho, rfl⟩ ⟨_, ho2, rfl⟩ noFill_tuple_add seq_tuple_add PySem.F.slot_tuple_add PySem.F.entry_tuple_add (PySem.F.args_tuple_add_2 _ _)
      (tuple_addW2 t b vs.toArray ws.toArray n n2 dd dd2 sl sl2 (by simpa using hv) (by simpa using hw) (by rw [List.size_toArray, List.size_toArray]; exact hsz)) ⟨ho, ho2, ?_⟩
    rw [e]
    exact h2 hw
def sIx (n d : Nat) : Option Int -> Nat
  | none => d
  | some v => if v < 0 then (v + (n : Int)).toNat else min v.toNat n
theorem sIx_le (n d : Nat) (hd : d <= n) (o : Option Int) : sIx n d o <= n := by
  cases o with
  | none => exact hd
  | some v =>
    show (if v < 0 then (v + (n : Int)).toNat else min v.toNat n) <= n
    by_cases hv : v < 0
    · rw [if_pos hv]; omega
    · rw [if_neg hv]; exact Nat.min_le_right _ _
theorem clip_eq (v : Int) (n d : Nat) : (if v < 0 then max (v + (n : Int)) 0 else min v (n : Int)) = ((sIx n d (some v) : Nat) : Int) := by
  show (if v < 0 then max (v + (n : Int)) 0 else min v (n : Int)) = (((if v < 0 then (v + (n : Int)).toNat else min v.toNat n) : Nat) : Int)
  by_cases hv : v < 0
  · simp only [if_pos hv]; omega
  · simp only [if_neg hv]; omega
theorem adjust_gen (lo hi : Option Int) (n : Nat) : Builtin.Slice.sliceAdjust lo hi 1 (n : Int) = (((sIx n 0 lo : Nat) : Int), ((sIx n n hi : Nat) : Int)) := by
  have h1 : ¬ ((1 : Int) < 0) := by omega
  unfold Builtin.Slice.sliceAdjust
  simp only [h1, if_false]
  refine Prod.ext ?_ ?_
  · cases lo with
    | none => rfl
    | some v => exact clip_eq v n 0
  · cases hi with
    | none => rfl
    | some v => exact clip_eq v n n
theorem places_gen (i j : Nat) : Builtin.Slice.slicePlaces (i : Int) (j : Int) 1 = j - i := by
  unfold Builtin.Slice.slicePlaces
  have h1 : (1 : Int) > 0 := by omega
  simp only [h1, if_true, Int.ediv_one]
  split <;> omega
theorem slicePart_ {v : Value} {o : Option Int} {Q : Option Int -> Shared -> Prop} (p : IsPart v o) (h : Q o s) : wpAny (model prog w) A (Builtin.Slice.slicePartIndex v) Q E s := by
  cases p with
  | none => exact slicePart_none h
  | int i t => exact slicePart_int h
theorem sliceApplied_gen {sl : Addr} {vl vu : Value} {lo hi : Option Int} {n : Nat} {Q : Int × Int × Nat -> Shared -> Prop} (hs : s.heap.IsSliceOf sl vl vu .none) (pl : IsPart vl lo) (pu : IsPart vu hi)
    (h : Q (((sIx n 0 lo : Nat) : Int), 1, sIx n n hi - sIx n 0 lo) s) : wpAny (model prog w) A (Builtin.Slice.sliceApplied (.ref sl) (pure (n : Int))) Q E s := by
  obtain ⟨os, hos, hcs, hds⟩ := id hs
  unfold Builtin.Slice.sliceApplied Builtin.Slice.sliceFields
  refine wpAny_bind (wpAny_bind (wpAny_field hos hds (x := vl) rfl (wpAny_bind (wpAny_field hos hds (x := vu) rfl (wpAny_bind (wpAny_field hos hds (x := .none) rfl (wpAny_pure ?_)))))))
  refine wpAny_bind (slicePart_none ?_)
  show wpAny _ _ (if ((1 : Int) == 0) = true then _ else _) _ _ s
  rw [if_neg (by decide)]
  refine wpAny_bind (slicePart_ pl (wpAny_bind (slicePart_ pu (wpAny_bind (wpAny_pure ?_)))))
  show wpAny _ _ (match Builtin.Slice.sliceAdjust lo hi 1 (n : Int) with | (lo, hi) => pure (lo, (1 : Int), Builtin.Slice.slicePlaces lo hi 1)) _ _ s
  rw [adjust_gen lo hi n]
  show wpAny _ _ (pure (((sIx n 0 lo : Nat) : Int), (1 : Int), Builtin.Slice.slicePlaces ((sIx n 0 lo : Nat) : Int) ((sIx n n hi : Nat) : Int) 1)) _ _ s
  rw [places_gen]
  exact wpAny_pure h
theorem pick_gen (xs : Array Value) (i k : Nat) : ((List.range k).filterMap fun (m : Nat) => xs[((i : Int) + (m : Int) * 1).toNat]?).toArray = ((xs.toList.drop i).take k).toArray := by
  have e : (fun (m : Nat) => xs[((i : Int) + (m : Int) * 1).toNat]?) = fun m => xs[i + m]? := by
    funext m
    have : ((i : Int) + (m : Int) * 1).toNat = i + m := by omega
    rw [this]
  rw [e]
  have := pick_run xs i k
  rw [List.filterMap_map] at this
  have e2 : ((fun x => xs[x]?) ∘ fun x => i + x) = fun m => xs[i + m]? := rfl
  rw [e2] at this
  rw [this]
theorem getItem_tuple_cut {t sl : Addr} {items : Array Value} {vl vu : Value} {lo hi : Option Int} {Q : Value -> Shared -> Prop} (ht : IsTup s.heap t items) (hs : s.heap.IsSliceOf sl vl vu .none) (pl : IsPart vl lo) (pu : IsPart vu hi)
    (hw : ¬ (sIx items.size 0 lo = 0 /\ sIx items.size items.size hi = items.size))
    (h : Q (.ref s.heap.objs.size) { s with heap := s.heap.push { cls := .type "tuple", data := .seq ((items.toList.drop (sIx items.size 0 lo)).take (sIx items.size items.size hi - sIx items.size 0 lo)).toArray } })
    (hsz : items.size <= sizeLine) : wpAny (model prog w) A (getItem (.ref t) (.ref sl)) Q E s := by
  have htake : sizeOk (.seq ((items.toList.drop (sIx items.size 0 lo)).take (sIx items.size items.size hi - sIx items.size 0 lo)).toArray) := by
    show ((items.toList.drop (sIx items.size 0 lo)).take (sIx items.size items.size hi - sIx items.size 0 lo)).toArray.size <= sizeLine
    rw [List.size_toArray, List.length_take, List.length_drop, Array.length_toList]
    omega
  have hj : sIx items.size items.size hi <= items.size := sIx_le _ _ (Nat.le_refl _) hi
  obtain ⟨os, hos, hcs, hds⟩ := id hs
  have hTs : s.TypeIs (.ref sl) "slice" := ⟨os, hos, hcs⟩
  unfold getItem
  try with_reducible refine wpAny_holding ?_
  first | refine wpAny_bind (wpAny_pure ?_) | skip
  refine wpAny_bind (wpAny_sequenceKey ht.typeIs (by decide) ?_)
  refine wpAny_bind (wpAny_callSpecial?_slot (name := Str.ofString "__getitem__") ht.typeIs PyProof.Rows.slot_tuple_getitem
    (wpAny_call_entry PyProof.Rows.slot_tuple_getitem ht.typeIs entry_tuple_getitem ?_ (args_tuple_getitem _ _)))
  show wpAny _ _ (Builtin.Tuple.tupleItemsOf (.ref t) >>= _) _ _ s
  refine wpAny_bind (tupleItemsOf_ ht ?_)
  refine wpAny_bind (wpAny_typeOf hTs ?_)
  rw [if_pos (by decide)]
  refine wpAny_bind (sliceApplied_gen hs pl pu ?_)
  have hno : ¬ ((((sIx items.size 0 lo : Nat) : Int) == 0 && (1 : Int) == 1 && (sIx items.size items.size hi - sIx items.size 0 lo) == items.size) = true) := by
    intro q
    rw [Bool.and_eq_true, Bool.and_eq_true] at q
    have q1 : ((sIx items.size 0 lo : Nat) : Int) = 0 := eq_of_beq q.1.1
    have q2 : sIx items.size items.size hi - sIx items.size 0 lo = items.size := eq_of_beq q.2
    exact hw ⟨by omega, by omega⟩
  show wpAny _ _ (if (((sIx items.size 0 lo : Nat) : Int) == 0 && (1 : Int) == 1 && (sIx items.size items.size hi - sIx items.size 0 lo) == items.size) = true then _ else _) _ _ s
  rw [if_neg hno, pick_gen]
  first
    | exact wpAny_bind (m := Builtin.Tuple.tupleExact _) (wpAny_newObj_type (wpAny_pure ⟨_, rfl, wpAny_pure h⟩) htake)
    | exact wpAny_bind (m := Builtin.Tuple.tupleExact _) (wpAny_newObj_type (wpAny_bind (wpAny_pure (wpAny_pure ⟨_, rfl, wpAny_pure h⟩))) htake)
    | exact wpAny_bind (wpAny_bind (m := Builtin.Tuple.tupleExact _) (wpAny_newObj_type (wpAny_pure (wpAny_pure ⟨_, rfl, wpAny_pure h⟩)) htake))
    | exact wpAny_bind (wpAny_bind (m := Builtin.Tuple.tupleExact _) (wpAny_newObj_type (wpAny_pure ⟨_, rfl, wpAny_pure h⟩) htake))
end
end HT
namespace L2
open PySem PySem.Spec PyProof.Rows
abbrev TO := St -> Hp -> (Option Int -> Hp -> Prop) -> Prop
def PO (X : Cx) (e : Option Expr) (t : TO) : Prop :=
  ∀ (pins : List (Addr × Obj)) (s : Shared) (σ : St) (H : Hp) (Q : Option Int -> Hp -> Prop), Inv X pins σ H s -> t σ H Q ->
    wpAny (model X.prog X.w) X.A (evalPart e X.env) (fun u s' => ∃ o H', Inv X pins σ H' s' /\ IsPart u o /\ Q o H') X.xe s
def tNoPart : TO := fun _ H Q => Q none H
def tPart (t : TE) : TO := fun σ H Q => t σ H fun x H1 => ∃ i, x = .int i /\ Q (some i) H1
section
variable {X : Cx} {e : Expr} {te : TE} {lo hi : Option Expr} {tl th : TO} {pos p2 : Pos}
theorem po_none : PO X none tNoPart := by
  intro pins s σ H Q I h
  rw [evalPart_none]
  exact wpAny_pure ⟨none, H, I, .none, h⟩
theorem po_some (h : PE X e te) : PO X (some e) (tPart te) := by
  intro pins s σ H Q I hw
  rw [evalPart_some]
  refine thn (h pins s σ H _ I hw) fun u s1 ⟨x, H1, I1, r1, q1⟩ => ?_
  obtain ⟨i, rfl, q⟩ := q1
  obtain ⟨t, rfl⟩ := r1
  exact ⟨some i, H1, I1, .int i t, q⟩
def SlR (X : Cx) (r : V -> Option Int -> Option Int -> Hp -> VK -> Prop) : Prop :=
  ∀ (pins : List (Addr × Obj)) (s : Shared) (σ : St) (H : Hp) (x : V) (v vl vu : Value) (lo hi : Option Int) (sl : Addr) (Q : VK), Inv X pins σ H s -> RelV x v -> s.heap.IsSliceOf sl vl vu .none -> IsPart vl lo -> IsPart vu hi -> r x lo hi H Q ->
    ∃ T id, typeLookup (.type T) "__getitem__" = pure (some (.builtin id)) /\ s.TypeIs v T /\ wpAny (model X.prog X.w) X.A (getItem v (.ref sl)) (EP X pins σ Q) X.xe s
theorem SlR.or {r r' : V -> Option Int -> Option Int -> Hp -> VK -> Prop} (h : SlR X r) (h' : SlR X r') : SlR X (fun x lo hi H Q => r x lo hi H Q ∨ r' x lo hi H Q) := by
  intro pins s σ H x v vl vu lo hi sl Q I rx hs pl pu q
  rcases q with q | q
  · exact h pins s σ H x v vl vu lo hi sl Q I rx hs pl pu q
  · exact h' pins s σ H x v vl vu lo hi sl Q I rx hs pl pu q
def tSl (r : V -> Option Int -> Option Int -> Hp -> VK -> Prop) (te : TE) (tl th : TO) : TE := fun σ H Q => te σ H fun x H1 => tl σ H1 fun l H2 => th σ H2 fun u H3 => r x l u H3 Q
theorem pe_slice {r : V -> Option Int -> Option Int -> Hp -> VK -> Prop} (hr : SlR X r) (he : PE X e te) (hl : PO X lo tl) (hu : PO X hi th) : PE X (.Subscript e (.Slice lo hi none p2) pos) (tSl r te tl th) := by
  intro pins s σ H Q I h
  refine Subscript_ (thn (he pins s σ H _ I h) fun v s1 ⟨x, H1, I1, r1, q1⟩ => ?_)
  refine wpAny_Slice (thn (hl pins s1 σ H1 _ I1 q1) fun vl s2 ⟨l, H2, I2, pl, q2⟩ => thn (hu pins s2 σ H2 _ I2 q2) fun vu s3 ⟨u, H3, I3, pu, q3⟩ => ?_)
  rw [evalPart_none]
  refine wpAny_pure ?_
  have I4 : Inv X pins σ H3 { s3 with heap := s3.heap.push { cls := .type "slice", data := .fields #[vl, vu, .none] } } := I3.kept (t' := s3.toks) fun b ob q => Heap.get?_push_of_some _ q
  obtain ⟨T, id, hT, ht, hg⟩ := hr pins { s3 with heap := s3.heap.push { cls := .type "slice", data := .fields #[vl, vu, .none] } } σ H3 x v vl vu l u s3.heap.objs.size Q I4 r1 (Heap.IsSliceOf.new ..) pl pu q3
  show wpAny (model X.prog X.w) X.A (subscriptTail e (.Slice lo hi none p2) v (.ref s3.heap.objs.size)) (EP X pins σ Q) X.xe { s3 with heap := s3.heap.push { cls := .type "slice", data := .fields #[vl, vu, .none] } }
  exact tail_any (ops := [.ref s3.heap.objs.size, v]) ht hT hg (by with_unfolding_all rfl)
def cutV (xs : List V) (lo hi : Option Int) : List V := (xs.drop (HT.sIx xs.length 0 lo)).take (HT.sIx xs.length xs.length hi - HT.sIx xs.length 0 lo)
theorem cutV_length (xs : List V) (lo hi : Option Int) : (cutV xs lo hi).length <= xs.length := by
  unfold cutV
  rw [List.length_take, List.length_drop]
  omega
def rSlT (K : PySem.W.Frag) : V -> Option Int -> Option Int -> Hp -> VK -> Prop := fun x lo hi H Q => ∃ a xs, x = .ref a /\ SqT K H a xs /\
  ¬ (HT.sIx xs.length 0 lo = 0 /\ HT.sIx xs.length xs.length hi = xs.length) /\ ∀ p, H p = none -> Q (.ref p) (upd H p (.tup (cutV xs lo hi)))
theorem sl_tup : SlR X (rSlT X.K) := by
  intro pins s σ H x v vl vu lo hi sl Q I rx hs pl pu h
  obtain ⟨a, xs, rfl, hx, hw, q⟩ := h
  cases rx
  obtain ⟨its, r, ht, hz⟩ := I.tuple hx
  have hlen : its.toArray.size = xs.length := by rw [List.size_toArray]; exact r.length.symm
  refine ⟨"tuple", _, PyProof.Rows.slot_tuple_getitem.lookup, ht.typeIs, ?_⟩
  refine HT.getItem_tuple_cut ht hs pl pu (by rw [hlen]; exact hw) ?_ (by rw [hlen]; exact hz)
  rw [hlen]
  refine ⟨.ref s.heap.objs.size, _, I.laid (t' := s.toks) (o := .tup (cutV xs lo hi)) (fun b ob q => Heap.get?_push_of_some _ q) (Nat.le_refl _) ?_, rfl, q _ (I.hok.fresh (Nat.le_refl _))⟩
  exact ⟨Nat.le_trans (cutV_length xs lo hi) hz, _, (r.drop (HT.sIx xs.length 0 lo)).take (HT.sIx xs.length xs.length hi - HT.sIx xs.length 0 lo), IsTupN.new _ _⟩
def rCatT (K : PySem.W.Frag) : R2 := fun x y H Q => ∃ a b xs ys, x = .ref a /\ y = .ref b /\ SqT K H a xs /\ SqT K H b ys /\ xs ≠ [] /\ xs.length + ys.length <= sizeLine /\
  (ys = [] -> Q (.ref a) H) /\ (ys ≠ [] -> ∀ p, H p = none -> Q (.ref p) (upd H p (.tup (xs ++ ys))))
theorem Vals.nil_iff {xs : List V} {us : List Value} (r : Vals xs us) : us = [] ↔ xs = [] := by
  cases r with
  | nil => simp
  | cons _ _ => simp
theorem op_catT : OpR X (binaryOp .Add) (rCatT X.K) := by
  intro pins s σ H x y v u Q I rx ry h
  obtain ⟨a, b, xs, ys, rfl, rfl, ha, hb, hx, hz, q1, q2⟩ := h
  cases rx
  cases ry
  obtain ⟨its, r1, p1, _⟩ := I.tuple ha
  obtain ⟨its2, r2, p2, _⟩ := I.tuple hb
  refine HT.cat_tup p1 p2 (fun z => hx (r1.nil_iff.mp z)) (fun z => ⟨.ref a, H, I, rfl, q1 (r2.nil_iff.mp z)⟩) (fun z => ?_) (by rw [← r1.length, ← r2.length]; exact hz)
  refine ⟨.ref s.heap.objs.size, _, I.laid (t' := s.toks) (o := .tup (xs ++ ys)) (fun b ob q => Heap.get?_push_of_some _ q) (Nat.le_refl _) ?_, rfl, q2 (fun w => z (r2.nil_iff.mpr w)) _ (I.hok.fresh (Nat.le_refl _))⟩
  exact ⟨by rw [List.length_append]; exact hz, _, r1.append r2, IsTupN.new _ _⟩
end
end L2
namespace L2
open PySem PySem.Spec PyProof.Rows
def ixN (n : Nat) (i : Int) : Option Nat := if 0 <= i then (if i < n then some i.toNat else none) else if -(n : Int) <= i then some (i + n).toNat else none
def atI {α : Type} (xs : List α) (i : Int) : Option α := (ixN xs.length i).bind fun j => xs[j]?
theorem ixN_seq {n : Nat} {i : Int} {j : Nat} (h : ixN n i = some j) : seqIndex? i n = some j /\ j < n /\ -(n : Int) <= i /\ i < n := by
  unfold ixN at h
  by_cases h0 : 0 <= i
  · rw [if_pos h0] at h
    by_cases h1 : i < n
    · rw [if_pos h1] at h
      have e : i.toNat = j := Option.some.inj h
      exact ⟨by rw [seqIndex_of h0 h1, e], by omega, by omega, h1⟩
    · rw [if_neg h1] at h; cases h
  · rw [if_neg h0] at h
    by_cases h1 : -(n : Int) <= i
    · rw [if_pos h1] at h
      have e : (i + n).toNat = j := Option.some.inj h
      exact ⟨by rw [seqIndex_neg (by omega) h1, e], by omega, h1, by omega⟩
    · rw [if_neg h1] at h; cases h
theorem atI_get {α : Type} {xs : List α} {i : Int} {v : α} (h : atI xs i = some v) : ∃ j, seqIndex? i xs.length = some j /\ xs[j]? = some v /\ j < xs.length /\ -(xs.length : Int) <= i /\ i < xs.length := by
  unfold atI at h
  cases e : ixN xs.length i with
  | none => rw [e] at h; cases h
  | some j =>
    rw [e] at h
    obtain ⟨h1, h2, h3, h4⟩ := ixN_seq e
    exact ⟨j, h1, h, h2, h3, h4⟩
theorem atI_nat {α : Type} {xs : List α} {j : Nat} {v : α} (h : xs[j]? = some v) : atI xs (j : Int) = some v := by
  have hj : j < xs.length := (List.getElem?_eq_some_iff.mp h).1
  have e : ixN xs.length (j : Int) = some j := by
    unfold ixN
    rw [if_pos (by omega), if_pos (by omega)]; simp
  unfold atI; rw [e]; exact h
def PlainIx (b : Expr) : Prop := ∀ o i, subscripted b false o i = operate [o, i] (getItem o i)
def IxR (X : Cx) (r : R2) : Prop :=
  ∀ (value slice : Expr) (pins : List (Addr × Obj)) (s : Shared) (σ : St) (H : Hp) (x y : V) (v u : Value) (Q : VK), Inv X pins σ H s -> RelV x v -> RelV y u -> r x y H Q ->
    subscripted slice false v u = operate [v, u] (getItem v u) -> wpAny (model X.prog X.w) X.A (subscriptTail value slice v u) (EP X pins σ Q) X.xe s
def MtR (X : Cx) (id : String) (r : V -> List V -> Hp -> VK -> Prop) : Prop :=
  ∀ (pins : List (Addr × Obj)) (s : Shared) (σ : St) (H : Hp) (x : V) (xs : List V) (v : Value) (us : List Value) (Q : VK), Inv X pins σ H s -> RelV x v -> Vals xs us -> r x xs H Q ->
    wpAny (model X.prog X.w) X.A (call (.builtin id) (v :: us)) (EP X pins σ Q) X.xe s
section
variable {X : Cx} {a b : Expr} {ta tb : TE} {pos : Pos}
theorem IxR.or {r r' : R2} (h : IxR X r) (h' : IxR X r') : IxR X (fun x y H Q => r x y H Q ∨ r' x y H Q) := by
  intro value slice pins s σ H x y v u Q I rx ry q hs
  rcases q with q | q
  · exact h value slice pins s σ H x y v u Q I rx ry q hs
  · exact h' value slice pins s σ H x y v u Q I rx ry q hs
theorem pe_ix {r : R2} (hr : IxR X r) (ha : PE X a ta) (hb : PE X b tb) (hs : PlainIx b) : PE X (.Subscript a b pos) (tOp r ta tb) := by
  intro pins s σ H Q I h
  exact Subscript_ (binT ha hb I h fun v u s2 x y H2 I2 rx ry q => hr a b pins s2 σ H2 x y v u Q I2 rx ry q (hs _ _))
def rIxL (K : PySem.W.Frag) : R2 := fun x y H Q => ∃ p xs i v, x = .ref p /\ y = .int i /\ SqL K H p xs /\ atI xs i = some v /\ Q v H
def rIxT (K : PySem.W.Frag) : R2 := fun x y H Q => ∃ p xs i v, x = .ref p /\ y = .int i /\ SqT K H p xs /\ atI xs i = some v /\ Q v H
def rIxS : R2 := fun x y H Q => ∃ z i c, x = .str z /\ y = .int i /\ z.length <= sizeLine /\ atI z.cps.toList i = some c /\ Q (.str ⟨#[c]⟩) H
theorem ix_list : IxR X (rIxL X.K) := by
  intro value slice pins s σ H x y v u Q I rx ry h hs
  obtain ⟨p, xs, i, z, rfl, rfl, hq, he, q⟩ := h
  cases rx
  obtain ⟨t, rfl⟩ := ry
  obtain ⟨its, r, pl, hz⟩ := I.list hq
  obtain ⟨j, h1, h2, h3, h4, h5⟩ := atI_get he
  obtain ⟨w, ew, rw'⟩ := r.get h2
  have hl := r.length
  have hn := line63
  have fin : EP X pins σ Q w s := ⟨z, H, I, rw', q⟩
  by_cases h0 : 0 <= i
  · have hj : i.toNat = j := by
      rw [seqIndex_of h0 h5] at h1
      exact Option.some.inj h1
    exact item_listR pl.isList h0 (by omega) (by rw [hj]; simpa using ew) fin hs
  · have hj : (i + (its.toArray.size : Int)).toNat = j := by
      rw [seqIndex_neg (by omega) h4] at h1
      rw [List.size_toArray, ← hl]
      exact Option.some.inj h1
    exact subscriptTail_builtinR (x := w) pl.isList.typeIs slot_list_getitem.lookup
      (wpAny_getItem_list_neg (Q := fun r s' => r = w /\ EP X pins σ Q r s') pl.isList (by omega) (by rw [List.size_toArray] <;> omega) (by omega) (by rw [hj]; simpa using ew) ⟨rfl, fin⟩) hs
theorem ix_tup : IxR X (rIxT X.K) := by
  intro value slice pins s σ H x y v u Q I rx ry h hs
  obtain ⟨p, xs, i, z, rfl, rfl, hq, he, q⟩ := h
  cases rx
  obtain ⟨t, rfl⟩ := ry
  obtain ⟨its, r, pl, hz⟩ := I.tuple hq
  obtain ⟨j, h1, h2, h3, h4, h5⟩ := atI_get he
  obtain ⟨w, ew, rw'⟩ := r.get h2
  have hl := r.length
  have hn := line63
  have fin : EP X pins σ Q w s := ⟨z, H, I, rw', q⟩
  exact subscriptTail_builtinR (x := w) pl.typeIs slot_tuple_getitem.lookup
    (getItem_tuple (j := j) (Q := fun r s' => r = w /\ EP X pins σ Q r s') pl (by omega) (by omega) (by rw [List.size_toArray, ← hl]; exact h1) (by simpa using ew) ⟨rfl, fin⟩) hs
theorem ix_str : IxR X rIxS := by
  intro value slice pins s σ H x y v u Q I rx ry h hs
  obtain ⟨z, i, c, rfl, rfl, hz, he, q⟩ := h
  obtain ⟨t, rfl⟩ := rx
  obtain ⟨t', rfl⟩ := ry
  obtain ⟨j, h1, h2, h3, h4, h5⟩ := atI_get he
  have hl : z.cps.toList.length = z.length := by simp [Str.length]
  rw [hl] at h1 h4 h5
  have hn := line63
  exact tail_any (typeIs_str s z t) slot_str_getitem.lookup (getItem_str (c := c) (by
    have e1 : decide (i < -(2 ^ 63 : Int)) = false := decide_eq_false (by omega)
    have e2 : decide (i ≥ 2 ^ 63) = false := decide_eq_false (by omega)
    rw [e1, e2, Bool.or_false]) (by rw [h1]; simpa using h2) ⟨.str ⟨#[c]⟩, H, I.tok _, ⟨_, rfl⟩, q⟩) hs
def rIx (K : PySem.W.Frag) : R2 := fun x y H Q => rIxL K x y H Q ∨ rIxT K x y H Q ∨ rIxS x y H Q
theorem ix_seq : IxR X (rIx X.K) := ix_list.or (ix_tup.or ix_str)
theorem mapSeq_set (its : List Value) (n j : Nat) (u : Value) : Obj.mapSeq (·.setIfInBounds j u) { cls := .type "list", data := .seq its.toArray n } = { cls := .type "list", data := .seq (its.set j u).toArray n } := by
  simp [Obj.mapSeq]
theorem Inv.lst {pins : List (Addr × Obj)} {σ : St} {H : Hp} {s : Shared} {p : Addr} {xs : List V} (I : Inv X pins σ H s) (h : H p = some (.lst xs)) :
    ∃ (its : List Value) (n : Nat), Vals xs its /\ s.heap.get? p = some { cls := .type "list", data := .seq its.toArray n } /\ xs.length <= sizeLine := by
  obtain ⟨z, its, n, r, e⟩ := I.hok p _ h
  exact ⟨its, n, r, e, z⟩
theorem Inv.lstUpd {pins : List (Addr × Obj)} {σ : St} {H : Hp} {s : Shared} {p : Addr} {xs ys : List V} {its its' : List Value} {n n' : Nat} {f : Obj -> Obj} (I : Inv X pins σ H s) (h : H p = some (.lst xs))
    (ho : s.heap.get? p = some { cls := .type "list", data := .seq its.toArray n }) (hf : f { cls := .type "list", data := .seq its.toArray n } = { cls := .type "list", data := .seq its'.toArray n' }) (r : Vals ys its') (hz : ys.length <= sizeLine) (t : Nat) :
    Inv X pins σ (upd H p (.lst ys)) { s with heap := s.heap.update p f, toks := t } := by
  have e : (s.heap.update p f).get? p = some { cls := .type "list", data := .seq its'.toArray n' } := by
    rw [Heap.get?_update_self f ho (by rw [hf] <;> rfl), hf]
  refine I.write (x := p) (e := p) (by rw [h]; trivial) (.inl rfl) (fun b u hb q => (Heap.get?_update_other _ _ (Ne.symm hb)).trans q) ⟨_, e⟩ ?_
  exact ⟨hz, its', n', r, e⟩
def rSetL : V -> V -> V -> Hp -> (Hp -> Prop) -> Prop := fun o i v H Q => ∃ p xs k j, o = .ref p /\ i = .int k /\ H p = some (.lst xs) /\ ixN xs.length k = some j /\ Q (upd H p (.lst (xs.set j v)))
theorem set_list : PSet X rSetL := by
  intro pins s σ H o i v ov iv u Q I ro ri rv h
  obtain ⟨p, xs, k, j, rfl, rfl, hp, hj, q⟩ := h
  cases ro
  obtain ⟨t, rfl⟩ := ri
  obtain ⟨its, n, r, ho, hz⟩ := I.lst hp
  obtain ⟨h1, h2, h3, h4⟩ := ixN_seq hj
  have hl := r.length
  have hn := line63
  have I' : Inv X pins σ (upd H p (.lst (xs.set j v))) { s with heap := s.heap.update p (Obj.mapSeq (·.setIfInBounds j u)) } :=
    I.lstUpd hp ho (mapSeq_set its n j u) (r.set rv j) (by rw [List.length_set]; exact hz) s.toks
  by_cases h0 : 0 <= k
  · have hk : k.toNat = j := by
      rw [seqIndex_of h0 h4] at h1
      exact Option.some.inj h1
    exact PySem.W.ki_setAt ho h0 (by omega) (by rw [List.size_toArray, ← hl]; exact h4) (by rw [hk]; exact ⟨_, I', q⟩)
  · have hk : (k + (its.toArray.size : Int)).toNat = j := by
      rw [seqIndex_neg (by omega) h3] at h1
      rw [List.size_toArray, ← hl]
      exact Option.some.inj h1
    exact PySem.W.ki_setBack ho (by omega) (by rw [List.size_toArray, ← hl]; exact h3) (by omega) (by rw [hk]; exact ⟨_, I', q⟩)
theorem slice_bounds (lo hi : Option Int) (n : Nat) : (sliceBounds lo hi none n).1 = ((HT.sIx n 0 lo : Nat) : Int) /\ (sliceBounds lo hi none n).2.1 = ((HT.sIx n n hi : Nat) : Int) /\ (sliceBounds lo hi none n).2.2 = 1 := by
  refine ⟨?_, ?_, rfl⟩
  · cases lo with
    | none => simp [sliceBounds, HT.sIx]
    | some i =>
      simp only [sliceBounds, HT.sIx, Option.getD_none, show (1 : Int) > 0 by decide, if_true]
      by_cases h : i < 0
      · simp only [h, if_true] <;> omega
      · simp only [h, if_false] <;> omega
  · cases hi with
    | none => simp [sliceBounds, HT.sIx]
    | some i =>
      simp only [sliceBounds, HT.sIx, Option.getD_none, show (1 : Int) > 0 by decide, if_true]
      by_cases h : i < 0
      · simp only [h, if_true] <;> omega
      · simp only [h, if_false] <;> omega
theorem slicePick_cut (its : List Value) (lo hi : Option Int) : slicePick its.toArray lo hi none = ((its.drop (HT.sIx its.length 0 lo)).take (HT.sIx its.length its.length hi - HT.sIx its.length 0 lo)).toArray := by
  obtain ⟨h1, h2, h3⟩ := slice_bounds lo hi its.toArray.size
  unfold slicePick
  rw [h1, h2, h3]
  simp only [sliceRange_one, pick_run, List.size_toArray] <;> rfl
def rSlL (K : PySem.W.Frag) : V -> Option Int -> Option Int -> Hp -> VK -> Prop := fun x lo hi H Q => ∃ a xs, x = .ref a /\ SqL K H a xs /\ ∀ p, H p = none -> Q (.ref p) (upd H p (.lst (cutV xs lo hi)))
theorem sl_list : SlR X (rSlL X.K) := by
  intro pins s σ H x v vl vu lo hi sl Q I rx hs pl pu h
  obtain ⟨a, xs, rfl, hx, q⟩ := h
  cases rx
  obtain ⟨its, r, ht, hz⟩ := I.list hx
  have hlen := r.length
  refine ⟨"list", _, slot_list_getitem.lookup, ht.isList.typeIs, ?_⟩
  refine wpAny_getItem_list_slice ht.isList hs pl pu .none (by simp) ?_ (by rw [List.size_toArray] <;> omega)
  rw [slicePick_cut, ← hlen]
  refine ⟨.ref s.heap.objs.size, _, I.laid (t' := s.toks) (o := .lst (cutV xs lo hi)) (fun b ob q => Heap.get?_push_of_some _ q) (Nat.le_refl _) ?_, rfl, q _ (I.hok.fresh (Nat.le_refl _))⟩
  exact ⟨Nat.le_trans (cutV_length xs lo hi) hz, _, 0, (r.drop (HT.sIx xs.length 0 lo)).take (HT.sIx xs.length xs.length hi - HT.sIx xs.length 0 lo), Heap.get?_push_size _ rfl⟩
def flatV : V -> Bool
  | .non => true
  | .bl _ => true
  | .int _ => true
  | .str _ => true
  | _ => false
def eqV : V -> V -> Bool
  | .non, .non => true
  | .bl a, .bl b => a == b
  | .bl a, .int b => (if a then 1 else 0) == b
  | .int a, .bl b => a == (if b then 1 else 0)
  | .int a, .int b => a == b
  | .str a, .str b => a == b
  | _, _ => false
theorem eqAt_V {A : Around} {s : Shared} {y x : V} {u v : Value} (ry : RelV y u) (rx : RelV x v) (fy : flatV y = true) (fx : flatV x = true) : SeqAt.EqAt A s u v (eqV y x) := by
  cases y with
  | non =>
    cases ry
    cases x with
    | non => cases rx; exact SeqAt.EqAt.same _
    | bl b => cases rx; exact SeqAt.EqAt.none_bool b
    | int b => obtain ⟨t, rfl⟩ := rx; exact SeqAt.EqAt.none_int b t
    | str b => obtain ⟨t, rfl⟩ := rx; exact SeqAt.EqAt.none_str b t
    | _ => exact absurd (show false = true from fx) Bool.false_ne_true
  | bl a =>
    cases ry
    cases x with
    | non => cases rx; exact SeqAt.EqAt.bool_none a
    | bl b => cases rx; exact SeqAt.EqAt.bool_bool a b
    | int b => obtain ⟨t, rfl⟩ := rx; exact SeqAt.EqAt.bool_int a b t
    | str b => obtain ⟨t, rfl⟩ := rx; exact SeqAt.EqAt.bool_str a b t
    | _ => exact absurd (show false = true from fx) Bool.false_ne_true
  | int a =>
    obtain ⟨t', rfl⟩ := ry
    cases x with
    | non => cases rx; exact SeqAt.EqAt.int_none a t'
    | bl b => cases rx; exact SeqAt.EqAt.int_bool a t' b
    | int b => obtain ⟨t, rfl⟩ := rx; exact SeqAt.EqAt.int_int a t' b t
    | str b => obtain ⟨t, rfl⟩ := rx; exact SeqAt.EqAt.int_str a t' b t
    | _ => exact absurd (show false = true from fx) Bool.false_ne_true
  | str a =>
    obtain ⟨t', rfl⟩ := ry
    cases x with
    | non => cases rx; exact SeqAt.EqAt.str_none a t'
    | bl b => cases rx; exact SeqAt.EqAt.str_bool a t' b
    | int b => obtain ⟨t, rfl⟩ := rx; exact SeqAt.EqAt.str_int a t' b t
    | str b => obtain ⟨t, rfl⟩ := rx; exact SeqAt.EqAt.str_str a t' b t
    | _ => exact absurd (show false = true from fx) Bool.false_ne_true
  | _ => exact absurd (show false = true from fy) Bool.false_ne_true
theorem call_len_seq : CallR X (.builtin "len") (fun xs H Q => ∃ p ys, xs = [.ref p] /\ (SqL X.K H p ys ∨ SqT X.K H p ys) /\ Q (.int ys.length) H) := by
  intro pins s σ H xs us Q I r h
  obtain ⟨p, ys, rfl, hq, q⟩ := h
  obtain ⟨u, rfl, rx⟩ := vals1 r
  cases rx
  have hn := line63
  rcases hq with hq | hq
  · obtain ⟨its, r', pl, hz⟩ := I.list hq
    have hlen := r'.length
    exact Calls.call_len_list pl.isList (by simp only [List.size_toArray] <;> omega) ⟨.int ys.length, H, I.tok _, ⟨s.toks + 1, by rw [List.size_toArray, hlen]⟩, q⟩
  · obtain ⟨its, r', pl, hz⟩ := I.tuple hq
    have hlen := r'.length
    exact len_tuple pl (by simp only [List.size_toArray] <;> omega) ⟨.int ys.length, H, I.tok _, ⟨s.toks + 1, by rw [List.size_toArray, hlen]⟩, q⟩
theorem call_len_str : CallR X (.builtin "len") (fun xs H Q => ∃ z, xs = [.str z] /\ z.length <= sizeLine /\ Q (.int z.length) H) := by
  intro pins s σ H xs us Q I r h
  obtain ⟨z, rfl, hz, q⟩ := h
  obtain ⟨u, rfl, t, rfl⟩ := vals1 r
  have hn := line63
  exact len_str (by omega) ⟨.int z.length, H, I.tok _, ⟨_, rfl⟩, q⟩
theorem CallR.or {f : Value} {r r' : List V -> Hp -> VK -> Prop} (h : CallR X f r) (h' : CallR X f r') : CallR X f (fun xs H Q => r xs H Q ∨ r' xs H Q) := by
  intro pins s σ H xs us Q I rs q
  rcases q with q | q
  · exact h pins s σ H xs us Q I rs q
  · exact h' pins s σ H xs us Q I rs q
theorem call_tuple_of : CallR X (.type "tuple") (fun xs H Q => ∃ p ys, xs = [.ref p] /\ ((SqL X.K H p ys /\ ∀ l, H l = none -> Q (.ref l) (upd H l (.tup ys))) ∨ (SqT X.K H p ys /\ Q (.ref p) H))) := by
  intro pins s σ H xs us Q I r h
  obtain ⟨p, ys, rfl, h⟩ := h
  obtain ⟨u, rfl, rx⟩ := vals1 r
  cases rx
  rcases h with ⟨hq, q⟩ | ⟨hq, q⟩
  · obtain ⟨its, r', pl, hz⟩ := I.list hq
    have hlen := r'.length
    refine call_tuple_list pl.isList (fun h' kp => ?_) (by simp only [List.size_toArray] <;> omega)
    have I1 : Inv X pins σ H { s with heap := h' } := I.kept (t' := s.toks) kp
    have I2 : Inv X pins σ (upd H h'.objs.size (.tup ys)) { s with heap := h'.push { cls := .type "tuple", data := .seq its.toArray } } :=
      I1.laid (t' := s.toks) (fun b o e => Heap.get?_push_of_some _ e) (Nat.le_refl _) (show ObjOk X.prog X.w _ _ _ (.tup ys) from ⟨hz, its, r', IsTupN.new _ _⟩)
    exact ⟨.ref h'.objs.size, _, I2, rfl, q _ (I1.hok.fresh (Nat.le_refl _))⟩
  · obtain ⟨its, r', pl, hz⟩ := I.tuple hq
    exact call_tuple_same pl ⟨.ref p, H, I, rfl, q⟩
def tyV (K : PySem.W.Frag) (T : String) (x : V) (H : Hp) : Prop := match x with
  | .str _ => T = "str"
  | .int _ => T = "int"
  | .ref p => (T = "list" /\ ∃ xs, SqL K H p xs) ∨ (T = "tuple" /\ ∃ o, K.lookup p = some o /\ o.cls = .type "tuple" /\ o.dict = none) ∨
      (T = "dict" /\ ((∃ kvs, H p = some (.dK kvs)) ∨ ∃ kvs, H p = some (.dT kvs))) ∨ (T = "set" /\ ∃ S n, H p = some (.set S n))
  | _ => False
theorem tyV_is {pins : List (Addr × Obj)} {σ : St} {H : Hp} {s : Shared} {T : String} {x : V} {v : Value} (I : Inv X pins σ H s) (r : RelV x v) (ty : tyV X.K T x H) :
    s.TypeIs v T /\ ∀ a, v = .ref a -> ∃ ob, s.heap.get? a = some ob /\ ob.dict = none := by
  cases x with
  | str z =>
    obtain ⟨t, rfl⟩ := r
    cases (show T = "str" from ty)
    exact ⟨typeIs_str s z t, fun _ e => nomatch e⟩
  | int i =>
    obtain ⟨t, rfl⟩ := r
    cases (show T = "int" from ty)
    exact ⟨typeIs_int s i t, fun _ e => nomatch e⟩
  | ref p =>
    cases r
    rcases ty with ⟨rfl, xs, hq⟩ | ⟨rfl, o, hk, hc, hd⟩ | ⟨rfl, hk⟩ | ⟨rfl, S, n, hk⟩
    · obtain ⟨its, _, pl, _⟩ := I.list hq
      refine ⟨pl.isList.typeIs, fun a e => ?_⟩
      cases e
      obtain ⟨o, n, e, c, hd, _⟩ := pl
      exact ⟨o, e, hd⟩
    · refine ⟨⟨o, I.kIn p o hk, hc⟩, fun a e => ?_⟩
      cases e
      exact ⟨o, I.kIn _ o hk, hd⟩
    · have z : ∃ o, s.heap.get? p = some o /\ o.ExactDict := by
        rcases hk with ⟨kvs, hk⟩ | ⟨kvs, hk⟩
        · obtain ⟨_, _, _, _, o, _, _, e, ex, _⟩ := I.hok p _ hk
          exact ⟨o, e, ex⟩
        · obtain ⟨_, _, _, _, o, _, _, e, ex, _⟩ := I.hok p _ hk
          exact ⟨o, e, ex⟩
      obtain ⟨o, e, ex⟩ := z
      refine ⟨⟨o, e, ex.1⟩, fun a e2 => ?_⟩
      cases e2
      exact ⟨o, e, ex.2.1⟩
    · obtain ⟨o, _, _, _, e, ex, _⟩ := I.hok p _ hk
      refine ⟨⟨o, e, ex.1⟩, fun a e2 => ?_⟩
      cases e2
      exact ⟨o, e, ex.2.1⟩
  | _ => exact False.elim ty
def tBM (K : PySem.W.Frag) (T : String) (r : V -> List V -> Hp -> VK -> Prop) (to : TE) (t : TA) : TE := fun σ H Q => to σ H fun x H1 => tyV K T x H1 /\ t σ H1 fun xs H2 => r x xs H2 Q
variable {o e : Expr} {es : List Expr} {to : TE} {t : TA} {name : Str} {apos cpos : Pos} {T id : String} {r : V -> List V -> Hp -> VK -> Prop}
theorem pe_bm (pa : PlainAttrs T) (slot : Slot T name id) (hty : typeOf (.builtin id) = pure (.type "method_descriptor")) (hm : MtR X id r) (ho : PE X o to) (ha : PA X (e :: es) t)
    (hbase : attributeBase o name X.env (eval o X.env) = eval o X.env := by rfl)
    (hfew : ((backTo cpos (starEach (e :: es) X.env)).all (fun x => !x.1) && (backToKw cpos (keywordEach [] X.env)).all (fun x => x.1.isSome)
      && decide ((e :: es).length + ([] : List Keyword).length + (if ([] : List Keyword).isEmpty then 0 else 1) < 30)) = true := by rfl)
    (hline : (apos.endLine == cpos.line) = true := by rfl) (hs : starEach (e :: es) X.env = (false, eval e X.env) :: starEach es X.env := by rfl) (hplain : (backTo cpos (starEach es X.env)).any (·.1) = false := by rfl) :
    PE X (.Call (.Attribute o name apos) (e :: es) [] cpos) (tBM X.K T r to t) := by
  intro pins s σ H Q I h
  refine wpAny_Call_method_late hbase hfew hline rfl (thn (ho pins s σ H _ I h) fun v s1 ⟨x, H1, I1, r1, ty, q1⟩ => ?_)
  obtain ⟨h1, h2⟩ := tyV_is I1 r1 ty
  refine ⟨T, id, pa, slot, hty, h1, h2, ?_⟩
  have hA := ha cpos pins s1 σ H1 _ I1 q1
  rw [hs] at hA ⊢
  refine Calls.callWith_builtin (by show (false || (backTo cpos (starEach es X.env)).any (·.1)) = false; rw [hplain] <;> rfl) (Calls.evalArgs_plain ?_)
  exact thn hA fun us s2 ⟨vs, H2, I2, r2, q2⟩ => hm pins s2 σ H2 x vs v us Q I2 r1 r2 q2
/- xs.append(e), list.index on a module's tuple .. are MtR facts of 06m -/
end
end L2
namespace L2
open PySem PySem.Spec PyProof.Rows
def MtM (X : Cx) (id : String) (r : V -> List V -> Hp -> VK -> Prop) : Prop :=
  ∀ (pins : List (Addr × Obj)) (s : Shared) (σ : St) (H : Hp) (x : V) (xs : List V) (v : Value) (us : List Value) (Q : VK), Inv X pins σ H s -> RelV x v -> Vals xs us -> r x xs H Q ->
    wpAny (model X.prog X.w) X.A (call (.builtin id) (v :: us)) (EP X pins σ Q) X.xe s
theorem Vals.one : ∀ {x : V} {us : List Value}, Vals [x] us -> ∃ u, us = [u] /\ RelV x u
  | _, _, .cons r .nil => ⟨_, rfl, r⟩
theorem Vals.two : ∀ {x y : V} {us : List Value}, Vals [x, y] us -> ∃ u v, us = [u, v] /\ RelV x u /\ RelV y v
  | _, _, _, .cons r (.cons q .nil) => ⟨_, _, rfl, r, q⟩
theorem Vals.rep {xs : List V} {us : List Value} (h : Vals xs us) : ∀ k : Nat, Vals (List.replicate k xs).flatten (List.replicate k us).flatten
  | 0 => .nil
  | k + 1 => by
    rw [List.replicate_succ, List.replicate_succ, List.flatten_cons, List.flatten_cons]
    exact Vals.append h (Vals.rep h k)
theorem foldl_rep (its : List Value) : ∀ (k : Nat) (acc : List Value),
    List.foldl (fun x1 x2 => x1 ++ x2) acc.toArray (List.replicate k its.toArray) = (acc ++ (List.replicate k its).flatten).toArray
  | 0, acc => by simp
  | k + 1, acc => by
    have e : acc.toArray ++ its.toArray = (acc ++ its).toArray := by simp
    have e2 : (acc ++ its) ++ (List.replicate k its).flatten = acc ++ (List.replicate (k + 1) its).flatten := by
      rw [List.replicate_succ, List.flatten_cons, List.append_assoc]
    rw [← e2, ← foldl_rep its k (acc ++ its), ← e, List.replicate_succ, List.foldl_cons]
section
variable {X : Cx} {pins : List (Addr × Obj)} {σ : St} {H : Hp} {s : Shared} {l b : Addr} {xs ys zs : List V}
theorem Inv.lset {its its' : List Value} {n : Nat} {f : Array Value -> Array Value} {t' : Nat} (I : Inv X pins σ H s) (hH : H l = some (.lst xs))
    (e : s.heap.get? l = some { cls := .type "list", data := .seq its.toArray n }) (hf : f its.toArray = its'.toArray) (hv : Vals ys its') (hz : ys.length <= sizeLine) :
    Inv X pins σ (upd H l (.lst ys)) { s with heap := s.heap.update l (Obj.mapSeq f), toks := t' } := by
  have q := PySem.IsL.update e f
  rw [hf] at q
  refine I.write (x := l) (e := l) (by rw [hH]; exact trivial) (.inl rfl) (fun b' u hb hu => (Heap.get?_update_other s.heap (Obj.mapSeq f) (Ne.symm hb)).trans hu) ⟨_, q⟩ ?_
  exact ⟨hz, its', _, hv, q⟩
theorem Inv.lnew {its : List Value} {t' : Nat} (I : Inv X pins σ H s) (hv : Vals ys its) (hz : ys.length <= sizeLine) :
    Inv X pins σ (upd H s.heap.objs.size (.lst ys)) { s with heap := s.heap.push { cls := .type "list", data := .seq its.toArray }, toks := t' } :=
  I.laid (fun _ _ q => Heap.get?_push_of_some _ q) (Nat.le_refl _) ⟨hz, its, 0, hv, Heap.get?_push_size _ rfl⟩
theorem Inv.fresh (I : Inv X pins σ H s) : H s.heap.objs.size = none := I.hok.fresh (Nat.le_refl _)
theorem Inv.lstM (I : Inv X pins σ H s) (hH : H l = some (.lst xs)) : xs.length <= sizeLine /\ ∃ (its : List Value) (n : Nat), Vals xs its /\ xs.length = its.length /\ s.heap.get? l = some { cls := .type "list", data := .seq its.toArray n } := by
  obtain ⟨z, its, n, r, e⟩ := I.hok l _ hH
  exact ⟨z, its, n, r, r.length, e⟩
theorem notLongL {n : Nat} (h : n <= sizeLine) : Builtin.List.listTooLong n = false := by
  unfold Builtin.List.listTooLong
  exact decide_eq_false (by omega)
end
section
variable {X : Cx}
def rAppend : V -> List V -> Hp -> VK -> Prop := fun x vs H Q => ∃ l xs y, x = .ref l /\ vs = [y] /\ H l = some (.lst xs) /\ xs.length < sizeLine /\ Q .non (upd H l (.lst (xs ++ [y])))
theorem mt_append : MtM X "list.append" rAppend := by
  intro pins s σ H x vs v us Q I rx rv h
  obtain ⟨l, xs, y, rfl, rfl, hH, hz, q⟩ := h
  cases rx
  obtain ⟨u, rfl, ru⟩ := rv.one
  obtain ⟨z, its, n, r, hl, e⟩ := I.lstM hH
  refine call_meets F.slot_list_append ⟨_, e, rfl⟩ F.entry_list_append (F.args_list_append_2 _ _) (PySem.list_append l its.toArray n u (by rw [List.size_toArray]; omega)) ⟨e, ?_⟩
  refine ⟨.non, _, I.lset (its' := its ++ [u]) hH e (by simp) (r.append (.cons ru .nil)) ?_, rfl, q⟩
  rw [List.length_append, List.length_singleton]
  omega
def rCat : R2 := fun x y H Q => ∃ l b xs zs, x = .ref l /\ y = .ref b /\ H l = some (.lst xs) /\ H b = some (.lst zs) /\ xs.length + zs.length <= sizeLine /\ ∀ p, H p = none -> Q (.ref p) (upd H p (.lst (xs ++ zs)))
theorem op_cat : OpR X (binaryOp .Add) rCat := by
  intro pins s σ H x y v u Q I rx ry h
  obtain ⟨l, b, xs, zs, rfl, rfl, hH, hB, hz, q⟩ := h
  cases rx
  cases ry
  obtain ⟨z, its, n, r, hl, e⟩ := I.lstM hH
  obtain ⟨z2, its2, n2, r2, hl2, e2⟩ := I.lstM hB
  refine PySem.P.add_list e e2 ?_ (by rw [List.size_toArray, List.size_toArray]; omega)
  have ea : its.toArray ++ its2.toArray = (its ++ its2).toArray := by simp
  rw [ea]
  exact ⟨.ref _, _, I.lnew (t' := s.toks) (r.append r2) (by rw [List.length_append]; omega), rfl, q _ I.fresh⟩
def rRep : R2 := fun x y H Q => ∃ l k xs, x = .ref l /\ y = .int k /\ H l = some (.lst xs) /\ -(2 ^ 63) <= k /\ k < 2 ^ 63 /\ xs.length * k.toNat <= sizeLine /\
  ∀ p, H p = none -> Q (.ref p) (upd H p (.lst (List.replicate k.toNat xs).flatten))
theorem len_rep {α : Type} (xs : List α) (k : Nat) : (List.replicate k xs).flatten.length = k * xs.length := by
  induction k with
  | zero => simp
  | succ k ih => rw [List.replicate_succ, List.flatten_cons, List.length_append, ih, Nat.succ_mul, Nat.add_comm]
theorem op_rep : OpR X (binaryOp .Mult) rRep := by
  intro pins s σ H x y v u Q I rx ry h
  obtain ⟨l, k, xs, rfl, rfl, hH, h1, h2, hz, q⟩ := h
  cases rx
  obtain ⟨t, rfl⟩ := ry
  obtain ⟨z, its, n, r, hl, e⟩ := I.lstM hH
  have hlen : its.toArray.size * k.toNat <= sizeLine := by rw [List.size_toArray, ← hl]; exact hz
  have hcap : ¬ its.toArray.size * k.toNat > (2 ^ 63 - 1) / 8 := by
    have : (sizeLine : Nat) <= (2 ^ 63 - 1) / 8 := by decide
    omega
  have hfit : ¬ (!Builtin.List.listFitsIndex k) = true := by
    rw [fitsIndex_both h1 h2]
    exact Bool.false_ne_true
  have hlong : ¬ Builtin.List.listTooLong (its.toArray.size * k.toNat) = true := by
    rw [notLongL hlen]
    exact Bool.false_ne_true
  have hnew : List.foldl (fun x1 x2 => x1 ++ x2) #[] (List.replicate (if its.toArray.isEmpty = true then 0 else k.toNat) its.toArray) = (List.replicate k.toNat its).flatten.toArray := by
    have f0 : ∀ m : Nat, List.foldl (fun x1 x2 => x1 ++ x2) #[] (List.replicate m its.toArray) = (List.replicate m its).flatten.toArray := fun m => by
      have := foldl_rep its m []
      rw [List.nil_append] at this
      exact this
    rw [f0]
    cases its with
    | nil => simp
    | cons a r' => rw [if_neg (by simp)]
  refine wpAny_binaryOp_repeat_ref (T := "list") (U := "int") (by decide) ⟨_, e, rfl⟩ (fun s' => typeIs_int s' k t) noFill_list_mul F.fills_int_mul F.slot_int_rmul repeat_list F.slot_int_index.lookup
    (call_meets F.slot_int_rmul (typeIs_int s k t) F.entry_int_rmul (F.args_int_rmul_2 _ _) (int___rmul___int_list k t l its.toArray n)
      ⟨e, rfl, ⟨_, e, rfl⟩, call_meets F.slot_list_mul ⟨_, e, rfl⟩ F.entry_list_mul (F.args_list_mul_2 _ _) (AutoListH.list___mul___list_int_3 l its.toArray n k t hfit hcap hlong) ⟨e, ?_⟩⟩)
  rw [hnew]
  exact ⟨.ref _, _, I.lnew (t' := s.toks) (r.rep k.toNat) (by rw [len_rep, Nat.mul_comm]; exact hz), rfl, q _ I.fresh⟩
end
section
variable {prog : Program} {w : World} {A : Around} {E : Value -> Shared -> Prop} {s : Shared}
end
section
variable {X : Cx}
end
end L2
set_option Elab.async false
set_option linter.all false
set_option maxRecDepth 100000
namespace L2
open PySem PySem.Spec PyProof.Rows
section
variable {κ : Type} [DecidableEq κ]
def valV (kvs : List (κ × V)) (k : κ) : Option V := (kvs.find? fun kv => decide (kv.1 = k)).map (·.2)
def putK (kvs : List (κ × V)) (k : κ) (v : V) : List (κ × V) :=
  if (kvs.any fun kv => decide (kv.1 = k)) = true then kvs.map (fun kv => if kv.1 = k then (kv.1, v) else kv) else kvs ++ [(k, v)]
theorem valV_pos {p : κ × V} {r : List (κ × V)} {k : κ} (e : p.1 = k) : valV (p :: r) k = some p.2 := by simp [valV, List.find?_cons, e]
theorem valV_neg {p : κ × V} {r : List (κ × V)} {k : κ} (e : ¬ p.1 = k) : valV (p :: r) k = valV r k := by simp [valV, List.find?_cons, e]
theorem valV_any (k : κ) : ∀ kvs : List (κ × V), (kvs.any fun kv => decide (kv.1 = k)) = (valV kvs k).isSome
  | [] => rfl
  | p :: r => by
    rw [List.any_cons]
    by_cases e : p.1 = k
    · simp only [valV_pos e, decide_eq_true e, Bool.true_or, Option.isSome_some]
    · rw [valV_neg e, decide_eq_false e, Bool.false_or]; exact valV_any k r
theorem length_putK (kvs : List (κ × V)) (k : κ) (v : V) : (putK kvs k v).length <= kvs.length + 1 := by
  unfold putK
  split
  · rw [List.length_map]; omega
  · rw [List.length_append, List.length_cons, List.length_nil]; omega
theorem RelO.isSome_eq {o : Option V} {u : Option Value} (r : RelO o u) : o.isSome = u.isSome := by
  cases o with
  | none => cases u with
    | none => rfl
    | some _ => exact (show False from r).elim
  | some _ => cases u with
    | none => exact (show False from r).elim
    | some _ => rfl
theorem RelO.getD {o : Option V} {u : Option Value} {d : V} {d' : Value} (r : RelO o u) (rd : RelV d d') : RelV (o.getD d) (u.getD d') := by
  cases o with
  | none => cases u with
    | none => exact rd
    | some _ => exact (show False from r).elim
  | some _ => cases u with
    | none => exact (show False from r).elim
    | some _ => exact r
theorem KV.val {kvs : List (κ × V)} {vs : List (κ × Value)} (r : KV kvs vs) (k : κ) : RelO (valV kvs k) (valueAt vs k) := by
  unfold KV at r
  induction r with
  | nil => exact True.intro
  | @cons p q ps qs h t ih =>
    obtain ⟨h1, h2⟩ := h
    by_cases e : p.1 = k
    · have e' : q.1 = k := h1.symm.trans e
      have b : valueAt (q :: qs) k = some q.2 := by simp [valueAt, List.find?_cons, e']
      rw [valV_pos e, b]; exact h2
    · have e' : ¬ q.1 = k := fun z => e (h1.trans z)
      have b : valueAt (q :: qs) k = valueAt qs k := by simp [valueAt, List.find?_cons, e']
      rw [valV_neg e, b]; exact ih
theorem KV.any {kvs : List (κ × V)} {vs : List (κ × Value)} (r : KV kvs vs) (k : κ) : (kvs.any fun kv => decide (kv.1 = k)) = vs.any fun kv => decide (kv.1 = k) := by
  unfold KV at r
  induction r with
  | nil => rfl
  | cons h t ih => rw [List.any_cons, List.any_cons, ih, h.1]
theorem KV.repl {kvs : List (κ × V)} {vs : List (κ × Value)} (r : KV kvs vs) (k : κ) {y : V} {u : Value} (ry : RelV y u) :
    KV (kvs.map fun kv => if kv.1 = k then (kv.1, y) else kv) (vs.map fun kv => if kv.1 = k then (kv.1, u) else kv) := by
  unfold KV at r ⊢
  induction r with
  | nil => exact .nil
  | @cons p q ps qs h t ih =>
    rw [List.map_cons, List.map_cons]
    refine .cons ?_ ih
    obtain ⟨h1, h2⟩ := h
    by_cases e : p.1 = k
    · rw [if_pos e, if_pos (h1.symm.trans e)]; exact ⟨h1, ry⟩
    · rw [if_neg e, if_neg (fun z => e (h1.trans z))]; exact ⟨h1, h2⟩
theorem KV.put {kvs : List (κ × V)} {vs : List (κ × Value)} (r : KV kvs vs) (k : κ) {y : V} {u : Value} (ry : RelV y u) : KV (putK kvs k y) (stored vs k u) := by
  unfold putK stored
  rw [r.any k]
  by_cases e : (vs.any fun kv => decide (kv.1 = k)) = true
  · rw [if_pos e, if_pos e]; exact r.repl k ry
  · rw [if_neg e, if_neg e]; exact Paired.snoc r ⟨rfl, ry⟩
theorem KV.keys {kvs : List (κ × V)} {vs : List (κ × Value)} (r : KV kvs vs) : kvs.map (·.1) = vs.map (·.1) := by
  unfold KV at r
  induction r with
  | nil => rfl
  | cons h t ih => rw [List.map_cons, List.map_cons, ih, h.1]
theorem KV.length {kvs : List (κ × V)} {vs : List (κ × Value)} (r : KV kvs vs) : kvs.length = vs.length := Paired.length r
end
theorem kV_is {P : Program} {w : World} {k : Key} {u : Value} (r : RelV (kV k) u) : (mixKind P w).is k u = true := by
  cases k with
  | inl i => obtain ⟨t, e⟩ := (show ∃ t, u = Value.int i t from r); subst e; exact mixKind_int P w i t
  | inr x => obtain ⟨t, e⟩ := (show ∃ t, u = Value.str x t from r); subst e; exact mixKind_str P w x t
theorem items_are {P : Program} {w : World} : ∀ {ks : List Key} {us : List Value}, Vals (ks.map kV) us -> ItemsAre (mixKind P w) ks us
  | [], _, r => by rw [List.map_nil] at r; cases r; exact .nil
  | k :: ks, _, r => by
    rw [List.map_cons] at r
    cases r with
    | cons h t => exact .cons (kV_is h) (items_are t)
abbrev KT (H : Hp) : List (List Key × V) -> List (List Key × Addr × Value) -> Prop := Paired fun p q => p.1 = q.1 /\ H q.2.1 = some (.tup (p.1.map kV)) /\ RelV p.2 q.2.2
theorem KT.val {H : Hp} {kvs : List (List Key × V)} {xs : List (List Key × Addr × Value)} (r : KT H kvs xs) (k : List Key) : RelO (valV kvs k) ((atKey xs k).map (·.2)) := by
  induction r with
  | nil => exact True.intro
  | @cons p q ps qs h t ih =>
    obtain ⟨h1, _, h2⟩ := h
    by_cases e : p.1 = k
    · have e' : q.1 = k := h1.symm.trans e
      have b : atKey (q :: qs) k = some q.2 := by simp [atKey, List.find?_cons, e']
      rw [valV_pos e, b]; exact h2
    · have e' : ¬ q.1 = k := fun z => e (h1.trans z)
      have b : atKey (q :: qs) k = atKey qs k := by simp [atKey, List.find?_cons, e']
      rw [valV_neg e, b]; exact ih
theorem KT.repl {H : Hp} {kvs : List (List Key × V)} {xs : List (List Key × Addr × Value)} (r : KT H kvs xs) (k : List Key) {y : V} {u : Value} (ry : RelV y u) :
    KT H (kvs.map fun kv => if kv.1 = k then (kv.1, y) else kv) (xs.map (putAt k u)) := by
  induction r with
  | nil => exact .nil
  | @cons p q ps qs h t ih =>
    rw [List.map_cons, List.map_cons]
    refine .cons ?_ ih
    obtain ⟨h1, h2, h3⟩ := h
    unfold putAt
    by_cases e : p.1 = k
    · rw [if_pos e, if_pos (h1.symm.trans e)]; exact ⟨h1, h2, ry⟩
    · rw [if_neg e, if_neg (fun z => e (h1.trans z))]; exact ⟨h1, h2, h3⟩
theorem KT.put {H : Hp} {kvs : List (List Key × V)} {xs : List (List Key × Addr × Value)} (r : KT H kvs xs) (k : List Key) {b : Addr} {y : V} {u : Value} (hb : H b = some (.tup (k.map kV))) (ry : RelV y u) :
    KT H (putK kvs k y) (storedH xs k b u) := by
  have e : (kvs.any fun kv => decide (kv.1 = k)) = (atKey xs k).isSome := by
    rw [valV_any, (r.val k).isSome_eq, Option.isSome_map]
  unfold putK storedH
  rw [e]
  by_cases q : (atKey xs k).isSome = true
  · rw [if_pos q, if_pos q]; exact r.repl k ry
  · rw [if_neg q, if_neg q]; exact Paired.snoc r ⟨rfl, hb, ry⟩
theorem KT.keeps {H H' : Hp} {kvs : List (List Key × V)} {xs : List (List Key × Addr × Value)} (r : KT H kvs xs) (ht : ∀ b ys, H b = some (.tup ys) -> H' b = some (.tup ys)) : KT H' kvs xs :=
  Paired.mapP r fun _ _ z => ⟨z.1, ht _ _ z.2.1, z.2.2⟩
section
variable {P : Program} {w : World} {H : Hp} {h : Heap} {a : Addr}
theorem rd_of {u : HO} (ok : HOk P w H h) (e : Rd H a u) : ObjOk P w H h a u := e.ok ok
theorem dk_rd {kvs : List (Key × V)} (ok : HOk P w H h) (e : Rd H a (.dK kvs)) : kvs.length <= sizeLine /\ (a == sysModules) = false /\ ∃ vs, KV kvs vs /\ h.DictOf (mixKind P w) a vs :=
  show ObjOk P w H h a (.dK kvs) from rd_of ok e
theorem dk_of {kvs : List (Key × V)} (ok : HOk P w H h) (e : H a = some (.dK kvs)) : kvs.length <= sizeLine /\ (a == sysModules) = false /\ ∃ vs, KV kvs vs /\ h.DictOf (mixKind P w) a vs := dk_rd ok (.inl e)
theorem key_of {ks : List Key} (ok : HOk P w H h) (e : H a = some (.tup (ks.map kV))) : (tupleKind (mixKind P w)).is h ks a := by
  obtain ⟨_, its, r, o, h1, h2, n, h3⟩ := (show ObjOk P w H h a (.tup (ks.map kV)) from ok a _ e)
  exact ⟨o, its.toArray, n, h1, h2.1, h3, by simpa using items_are r⟩
theorem dt_rd {kvs : List (List Key × V)} (ok : HOk P w H h) (e : Rd H a (.dT kvs)) : kvs.length <= sizeLine /\ (a == sysModules) = false /\
    ∃ xs, KT H kvs xs /\ h.DictOfH (tupleKind (mixKind P w)) a xs := by
  obtain ⟨z, y, xs, r, o, es, ep, h1, h2, h3, h4, h5⟩ := (show ObjOk P w H h a (.dT kvs) from rd_of ok e)
  refine ⟨z, y, xs, r, o, es, ep, h1, h2, h3, h4, fun x hx => ?_, h5⟩
  have all : ∀ {l : List (List Key × V)} {m : List (List Key × Addr × Value)}, KT H l m -> ∀ x ∈ m, (tupleKind (mixKind P w)).is h x.1 x.2.1 := by
    intro l m q
    induction q with
    | nil => intro x hx; exact nomatch hx
    | @cons p q ps qs hq t ih =>
      intro x hx
      rcases List.mem_cons.mp hx with e | hx
      · subst e
        exact key_of ok (by rw [← hq.1]; exact hq.2.1)
      · exact ih x hx
  exact all r x hx
theorem dt_of {kvs : List (List Key × V)} (ok : HOk P w H h) (e : H a = some (.dT kvs)) : kvs.length <= sizeLine /\ (a == sysModules) = false /\
    ∃ xs, KT H kvs xs /\ h.DictOfH (tupleKind (mixKind P w)) a xs := dt_rd ok (.inl e)
end
def DGet (H : Hp) (a : Addr) (y : V) (r : Option V) : Prop :=
  (∃ kvs k, Rd H a (.dK kvs) /\ y = kV k /\ r = valV kvs k) ∨ ∃ kvs k b, Rd H a (.dT kvs) /\ y = .ref b /\ H b = some (.tup (k.map kV)) /\ r = valV kvs k
def DPut (H : Hp) (a : Addr) (y v : V) (H' : Hp) : Prop :=
  (∃ kvs k, H a = some (.dK kvs) /\ y = kV k /\ kvs.length < sizeLine /\ H' = upd H a (.dK (putK kvs k v))) ∨
  ∃ kvs k b, H a = some (.dT kvs) /\ y = .ref b /\ H b = some (.tup (k.map kV)) /\ kvs.length < sizeLine /\ H' = upd H a (.dT (putK kvs k v))
theorem DGet.k {H : Hp} {a : Addr} {kvs : List (Key × V)} {k : Key} (e : H a = some (.dK kvs)) : DGet H a (kV k) (valV kvs k) := .inl ⟨kvs, k, .inl e, rfl, rfl⟩
section
variable {X : Cx} {pins : List (Addr × Obj)} {σ : St} {H : Hp} {s : Shared} {a : Addr} {y v : V} {u r : Value} {o : Option V} {A : Around} {E : Value -> Shared -> Prop}
theorem Inv.big (I : Inv X pins σ H s) : sysModules < s.heap.objs.size := by
  have h : mainGlobals < s.heap.objs.size := (I.mod.glob.keeps I.bk).lt
  exact Nat.lt_trans (by decide) h
theorem d_getItem {Q : Value -> Shared -> Prop} (hu : A.units + 1 < cLine) (I : Inv X pins σ H s) (g : DGet H a y (some v)) (ry : RelV y u) (h : ∀ w' s', Inv X pins σ H s' -> RelV v w' -> Q w' s') :
    wpAny (model X.prog X.w) A (getItem (.ref a) u) Q E s := by
  rcases g with ⟨kvs, k, e, ey, l⟩ | ⟨kvs, k, b, e, ey, eb, l⟩
  · subst ey
    obtain ⟨z, hd, vs, rel, dd⟩ := dk_rd I.hok e
    obtain ⟨w', hw, rw'⟩ := RelO.some_of (v := v) (o := valueAt vs k) (by rw [l]; exact rel.val k)
    exact wpAny_getItem_of (kV_is ry) dd.mapOf hw (h w' _ (I.tok _) rw')
  · subst ey
    cases (show u = Value.ref b from ry)
    obtain ⟨z, hd, xs, rel, dd⟩ := dt_rd I.hok e
    obtain ⟨w', hw, rw'⟩ := RelO.some_of (v := v) (o := (atKey xs k).map (·.2)) (by rw [l]; exact rel.val k)
    obtain ⟨p, hp, hp2⟩ := Option.map_eq_some_iff.mp hw
    refine wpAny_getItem_heap (tupleKind_room_in1 hu) (key_of I.hok eb) dd hp ?_
    rw [hp2]
    exact h w' _ (I.tok _) rw'
theorem d_write {h' : Heap} {t' : Nat} {ob : HO} (I : Inv X pins σ H s) (mu : Mut (H a)) (hs : Heap.SameBut a s.heap h') (he : ∃ q, h'.get? a = some q) (new : ObjOk X.prog X.w (upd H a ob) h' a ob) :
    Inv X pins σ (upd H a ob) { s with heap := h', toks := t' } :=
  I.write (x := a) (e := a) mu (.inl rfl) (fun b q hb z => (hs.2 b hb).trans z) he new
theorem dk_new {P : Program} {w : World} {H' : Hp} {h' : Heap} {kvs : List (Key × V)} {vs : List (Key × Value)} (z : kvs.length <= sizeLine) (hd : (a == sysModules) = false) (rel : KV kvs vs) (dd : h'.DictOf (mixKind P w) a vs) :
    ObjOk P w H' h' a (.dK kvs) := ⟨z, hd, vs, rel, dd⟩
theorem d_setItem {H' : Hp} {Q : Unit -> Shared -> Prop} (hu : A.units + 1 < cLine) (I : Inv X pins σ H s) (g : DPut H a y v H') (ry : RelV y u) (rv : RelV v r) (h : ∀ s', Inv X pins σ H' s' -> Q () s') :
    wpAny (model X.prog X.w) A (setItem (.ref a) u r) Q E s := by
  rcases g with ⟨kvs, k, e, ey, l, eH⟩ | ⟨kvs, k, b, e, ey, eb, l, eH⟩
  · subst ey eH
    obtain ⟨z, hd, vs, rel, dd⟩ := dk_of I.hok e
    have hz : vs.length <= sizeLine := by rw [← rel.length]; exact z
    have hl : (putK kvs k v).length <= sizeLine := by have := length_putK kvs k v; omega
    refine wpAny_setItem_pairs (hsz := hz) (kV_is ry) dd fun h' dd' hs => h _ ?_
    have he : ∃ q, h'.get? a = some q := let ⟨q, _, _, hq, _⟩ := dd'; ⟨q, hq⟩
    exact d_write I (by rw [e]; exact True.intro) hs he (dk_new hl hd (rel.put k rv) dd')
  · subst ey eH
    cases (show u = Value.ref b from ry)
    obtain ⟨z, hd, xs, rel, dd⟩ := dt_of I.hok e
    have hz : xs.length <= sizeLine := by rw [← Paired.length rel]; exact z
    have hl : (putK kvs k v).length <= sizeLine := by have := length_putK kvs k v; omega
    refine wpAny_setItem_heap (hsz := hz) (tupleKind_room_in1 hu) (key_of I.hok eb) dd fun h' dd' hs => h _ ?_
    obtain ⟨q, es, ep, hq, h2, h3, h4, _, h5⟩ := dd'
    refine d_write I (by rw [e]; exact True.intro) hs ⟨q, hq⟩ ⟨hl, hd, _, (rel.put k eb rv).keeps fun c ys ec => ?_, q, es, ep, hq, h2, h3, h4, h5⟩
    rw [upd_ne (ne_of ec e (fun z => nomatch z))]
    exact ec
end
section
variable {X : Cx} {pins : List (Addr × Obj)} {σ : St} {H : Hp} {s : Shared} {a : Addr} {kvs : List (Key × V)} {k : Key} {u : Value} {A : Around} {E : Value -> Shared -> Prop}
end
def NoSl (i : Expr) : Prop := ∀ ov iv, subscripted i false ov iv = operate [ov, iv] (getItem ov iv)
theorem subD_of {prog : Program} {w : World} {A : Around} {E : Value -> Shared -> Prop} {s : Shared} {env : Env} {value slice : Expr} {pos : Pos} {T id : String} {Q : Value -> Shared -> Prop}
    (hl : typeLookup (.type T) "__getitem__" = pure (some (.builtin id))) (hs : NoSl slice)
    (h : wpAny (model prog w) A (eval value env) (fun o s₁ => wpAny (model prog w) A (eval slice env) (fun i s₂ => s₂.TypeIs o T /\ wpAny (model prog w) A (getItem o i) Q E s₂) E s₁) E s) :
    wpAny (model prog w) A (eval (.Subscript value slice pos) env) Q E s := by
  refine Subscript_ (wpAny_mono h (fun o s₁ h₁ => wpAny_mono h₁ (fun i s₂ h₂ => ?_) fun _ _ x => x) fun _ _ x => x)
  obtain ⟨hT, h₂⟩ := h₂
  unfold subscriptTail
  refine wpAny_bind ?_
  rw [getitemInPython_of_ne hT.not_modules]
  refine wpAny_bind (wpAny_specialOf hT hl ?_)
  have fin : wpAny (model prog w) A (subscripted slice false o i) (fun r s₃ => wpAny (model prog w) A (letTemporaryGo value o r >>= fun _ => pure r) Q E s₃) E s₂ := by
    rw [hs o i]
    exact wpAny_operating (wpAny_mono h₂ (fun r s₃ h₃ => wpAny_bind (wpAny_letTemporaryGo (wpAny_pure h₃))) fun _ _ x => x)
  first
    | exact wpAny_pure (wpAny_bind fin)
    | exact wpAny_bind (wpAny_pure (wpAny_bind fin))
    | exact wpAny_bind fin
theorem dict_typeIs {X : Cx} {pins : List (Addr × Obj)} {σ : St} {H : Hp} {s : Shared} {a : Addr} {y : V} {o : Option V} (I : Inv X pins σ H s) (g : DGet H a y o) : s.TypeIs (.ref a) "dict" := by
  rcases g with ⟨kvs, k, e, _, _⟩ | ⟨kvs, k, b, e, _, _, _⟩
  · obtain ⟨_, _, vs, _, dd⟩ := dk_rd I.hok e
    exact dd.typeIs
  · obtain ⟨_, _, xs, _, dd⟩ := dt_rd I.hok e
    exact dd.typeIs
def tDGet (td ty : TE) : TE := fun σ H Q => td σ H fun x H1 => ty σ H1 fun y H2 => ∃ a v, x = .ref a /\ DGet H2 a y (some v) /\ Q v H2
def sDPut (td ty tv : TE) : TS := fun D σ H => tv σ H fun v H1 => td σ H1 fun x H2 => ty σ H2 fun y H3 => ∃ a H4, x = .ref a /\ DPut H3 a y v H4 /\ D.nx σ H4
section
variable {X : Cx} {o i e value : Expr} {pos pos' tpos : Pos} {td ty tv : TE}
theorem pe_dget (hu : X.A.units + 1 < cLine) (ho : PE X o td) (hi : PE X i ty) (hs : NoSl i) : PE X (.Subscript o i pos) (tDGet td ty) := by
  intro pins s σ H Q I h
  refine subD_of PySem.F.slot_dict_getitem.lookup hs (thn (ho pins s σ H _ I h) fun u s1 ⟨x, H1, I1, rx, q1⟩ => thn (hi pins s1 σ H1 _ I1 q1) fun iv s2 ⟨y, H2, I2, ry, a, v, ex, g, q2⟩ => ?_)
  subst ex
  obtain rfl : u = Value.ref a := rx
  exact ⟨dict_typeIs I2 g, d_getItem hu I2 g ry fun w' s3 I3 rw' => ⟨v, H2, I3, rw', q2⟩⟩
theorem ps_dput (hu : X.A.units + 1 < cLine) (ho : PE X o td) (hi : PE X i ty) (hv : PE X value tv) (hs : swapsWith value (some (.Subscript o i pos')) pos.line X.env = pure false) :
    PS X (.Assign [.Subscript o i pos'] value pos) (sDPut td ty tv) := by
  intro pins s σ H D I h
  refine wpAny_Assign_Subscript (thn (hv pins s σ H _ I h) fun r s1 ⟨v, H1, I1, rv, q1⟩ => thn (ho pins s1 σ H1 _ I1 q1) fun u s2 ⟨x, H2, I2, rx, q2⟩ => thn (hi pins s2 σ H2 _ I2 q2) fun iv s3 ⟨y, H3, I3, ry, a, H4, ex, g, q3⟩ => ?_) hs
  subst ex
  obtain rfl : u = Value.ref a := rx
  exact d_setItem hu I3 g ry rv fun s4 I4 => ⟨σ, H4, I4, q3⟩
end
section
variable {X : Cx} {pos : Pos}
end
def mergeK (kvs more : List (Key × V)) : List (Key × V) := more.foldl (fun acc kv => putK acc kv.1 kv.2) kvs
theorem KV.merge : ∀ {more : List (Key × V)} {rs : List (Key × Value)} {kvs : List (Key × V)} {vs : List (Key × Value)}, KV more rs -> KV kvs vs -> KV (mergeK kvs more) (merged vs rs) := by
  intro more rs kvs vs r
  unfold KV at r
  induction r generalizing kvs vs with
  | nil => intro q; exact q
  | @cons p q ps qs h t ih =>
    intro r0
    have e : KV (putK kvs p.1 p.2) (stored vs q.1 q.2) := by
      have := r0.put p.1 h.2
      rw [← h.1]; exact this
    exact ih e
theorem length_mergeK : ∀ (more kvs : List (Key × V)), (mergeK kvs more).length <= kvs.length + more.length
  | [], kvs => by show kvs.length <= kvs.length + 0; omega
  | p :: r, kvs => by
    have h1 := length_mergeK r (putK kvs p.1 p.2)
    have h2 := length_putK kvs p.1 p.2
    show (mergeK (putK kvs p.1 p.2) r).length <= _
    rw [List.length_cons]; omega
structure M2 (X : Cx) (o : Expr) (m : Str) (apos : Pos) (e f : Expr) (cpos : Pos) : Prop where
  base : attributeBase o m X.env (eval o X.env) = eval o X.env
  few : ((backTo cpos (starEach [e, f] X.env)).all (fun x => !x.1) && (backToKw cpos (keywordEach [] X.env)).all (fun x => x.1.isSome)
    && decide (([e, f] : List Expr).length + ([] : List Keyword).length + (if ([] : List Keyword).isEmpty then 0 else 1) < 30)) = true
  line : (apos.endLine == cpos.line) = true
  trees : backTo cpos (starEach [e, f] X.env) = [(false, eval e X.env), (false, eval f X.env)]
def IsD (H : Hp) (a : Addr) : Prop := (∃ kvs, Rd H a (.dK kvs)) ∨ ∃ kvs, Rd H a (.dT kvs)
theorem isD_at {X : Cx} {pins : List (Addr × Obj)} {σ : St} {H : Hp} {s : Shared} {a : Addr} (I : Inv X pins σ H s) (d : IsD H a) :
    s.TypeIs (.ref a) "dict" /\ (∀ b, Value.ref a = .ref b -> ∃ ob, s.heap.get? b = some ob /\ ob.dict = none) /\ (a == sysModules) = false := by
  rcases d with ⟨kvs, e⟩ | ⟨kvs, e⟩
  · obtain ⟨_, hd, vs, _, dd⟩ := dk_rd I.hok e
    refine ⟨dd.typeIs, fun b q => ?_, hd⟩
    cases q
    obtain ⟨ob, _, _, h1, h2, _⟩ := dd
    exact ⟨ob, h1, h2.2.1⟩
  · obtain ⟨_, hd, xs, _, dd⟩ := dt_rd I.hok e
    refine ⟨dd.typeIs, fun b q => ?_, hd⟩
    cases q
    obtain ⟨ob, _, _, h1, h2, _⟩ := dd
    exact ⟨ob, h1, h2.2.1⟩
section
variable {X : Cx} {pins : List (Addr × Obj)} {σ : St} {H : Hp} {s : Shared} {a : Addr} {y d : V} {u r : Value} {o : Option V} {A : Around} {E : Value -> Shared -> Prop}
theorem d_get2 {Q : Value -> Shared -> Prop} (hu : A.units + 1 < cLine) (I : Inv X pins σ H s) (g : DGet H a y o) (ry : RelV y u) (rd : RelV d r) (h : ∀ w' s', Inv X pins σ H s' -> RelV (o.getD d) w' -> Q w' s') :
    wpAny (model X.prog X.w) A (call (.builtin "dict.get") [.ref a, u, r]) Q E s := by
  rcases g with ⟨kvs, k, e, ey, l⟩ | ⟨kvs, k, b, e, ey, eb, l⟩
  · subst ey
    obtain ⟨z, hd, vs, rel, dd⟩ := dk_rd I.hok e
    refine call_meetsIn PySem.F.slot_dict_get dd.typeIs PySem.F.entry_dict_get (PySem.F.args_dict_get_3 _ _ _) (meets_dict_get_default (mixKind X.prog X.w) a (kV_is ry) hd r) ⟨_, dd.mapOf, h _ _ (I.tok _) ?_⟩
    rw [l]
    exact (rel.val k).getD rd
  · subst ey
    cases (show u = Value.ref b from ry)
    obtain ⟨z, hd, xs, rel, dd⟩ := dt_rd I.hok e
    refine call_meetsIn PySem.F.slot_dict_get dd.typeIs PySem.F.entry_dict_get (PySem.F.args_dict_get_3 _ _ _) (meetsH_dict_get_default (tupleKind (mixKind X.prog X.w)) a b hd r) ⟨tupleKind_room_in1 hu, k, xs, key_of I.hok eb, dd, h _ _ (I.tok _) ?_⟩
    rw [l]
    exact (rel.val k).getD rd
end
def tDGet2 (td ty tx : TE) : TE := fun σ H Q => td σ H fun x H1 => ∃ a, x = .ref a /\ IsD H1 a /\ ty σ H1 fun y H2 => tx σ H2 fun z H3 => ∃ o, DGet H3 a y o /\ Q (o.getD z) H3
section
variable {X : Cx} {o e f : Expr} {apos cpos : Pos} {td ty tx : TE}
theorem pe_dget2 (hu : X.A.units + 1 < cLine) (ho : PE X o td) (he : PE X e ty) (hf : PE X f tx) (m : M2 X o "get" apos e f cpos) : PE X (.Call (.Attribute o "get" apos) [e, f] [] cpos) (tDGet2 td ty tx) := by
  intro pins s σ H Q I h
  refine wpAny_Call_method m.base m.few m.line PySem.F.plainAttrs_dict PySem.F.slot_dict_get PySem.F.type_dict_get (thn (ho pins s σ H _ I h) fun u s1 ⟨x, H1, I1, rx, a, ex, d, q1⟩ => ?_)
  subst ex
  obtain rfl : u = Value.ref a := rx
  obtain ⟨t1, t2, _⟩ := isD_at I1 d
  refine ⟨t1, t2, ?_⟩
  rw [m.trees]
  refine Calls.callWith_builtin rfl (Calls.evalArgs_plain (Calls.spliced_cons (thn (he pins s1 σ H1 _ I1 q1) fun iv s2 ⟨y, H2, I2, ry, q2⟩ =>
    Calls.spliced_cons (thn (hf pins s2 σ H2 _ I2 q2) fun fv s3 ⟨z, H3, I3, rz, ov, g, q3⟩ => Calls.spliced_nil ?_))))
  exact d_get2 hu I3 g ry rz fun w' s4 I4 rw' => ⟨_, H3, I4, rw', q3⟩
end
section
variable {X : Cx} {pins : List (Addr × Obj)} {σ : St} {H : Hp} {s : Shared} {a : Addr} {kvs : List (Key × V)} {A : Around} {E : Value -> Shared -> Prop}
end
section
variable {X : Cx} {pins : List (Addr × Obj)} {σ : St} {H : Hp} {s : Shared} {a : Addr} {y : V} {u : Value} {A : Around} {E : Value -> Shared -> Prop}
end
end L2
set_option Elab.async false
set_option linter.all false
set_option maxRecDepth 100000
namespace Att
open PySem PySem.W PySem.Calls PyProof.Rows
theorem ints_of_wellAll {P : Params} {h : Heap} : ∀ (ns : List Int) (vs : List Value), WellAll P h vs (ns.map WData.int) -> IntsAre vs ns := by
  intro ns
  induction ns with
  | nil =>
    intro vs w
    rw [List.map_nil] at w
    cases w
    exact .nil
  | cons n ns ih =>
    intro vs w
    rw [List.map_cons] at w
    cases w with
    | cons a b =>
      cases a
      exact .cons _ _ (ih _ b)
theorem script_of {l : OpenLaw} {n : Nat} (hn : l.most = some n) {P : Params} {h : Heap} {args : List WData} {vals : List Value}
    (hpre : l.row.toRowW.claim.pre args = true) (hwl : WellAll P h vals args) :
    ∃ a vs ns, vals = [Value.ref a] /\ args = [WData.list (ns.map WData.int)] /\ h.get? a = some { cls := .type "list", data := .seq vs.toArray } /\ IntsAre vs ns /\ ns.length <= n := by
  have hsh : WShape.hasAll [] args [.list .int] = true := (pre_splitW hpre).1
  have hc : l.pre.holds [] { args := args } = true := (pre_splitW hpre).2
  obtain ⟨d, r, rfl, h1, h2⟩ := hasAllW_cons hsh
  obtain rfl := hasAllW_nil h2
  obtain ⟨xs, rfl, h3⟩ := hasW_list h1
  obtain ⟨ns, rfl⟩ := items_int h3
  have hlen : ns.length <= n := by
    unfold OpenLaw.pre at hc
    have h4 : (WTm.not (.lt (.lit (.int (n : Int))) (.len (.arg 0)))).holds [] { args := [.list (ns.map .int)] } = true := by
      have h4 := (holds_andW hc).1
      rw [hn] at h4
      exact h4
    have h5 := condW_of h4 (w_not (w_lt w_lit (w_len_list (w_arg rfl))))
    rw [List.length_map] at h5
    refine Nat.le_of_not_lt fun q => ?_
    have q' : (n : Int) < ((ns.length : Nat) : Int) := by omega
    first
      | (rw [decide_eq_true q'] at h5; exact absurd h5 (by decide))
      | (simp at h5; omega)
  cases hwl with
  | cons w1 w2 =>
    cases w2
    cases w1 with
    | list ho hall => exact ⟨_, _, ns, rfl, rfl, ho, ints_of_wellAll ns _ hall, hlen⟩
theorem post_true (l : OpenLaw) (args : List WData) : l.row.toRowW.claim.post args (.bool true) args = true :=
  postW_of (r := l.row.toRowW) (X := (true == true))
    (show WShape.has [] (.bool true) .bool = true by first | rfl | decide | simp [WShape.has, WShape.arms, WShape.armsAll])
    (show (WTm.eq .res (.lit (.bool true))).value [] { args := args, res := some (.bool true), after := args } = some (.bool (true == true)) from w_eq_bool (w_res rfl) w_lit) rfl
section
variable {prog : Program} {w : World} {A : Around} {E : Value -> Shared -> Prop} {s : Shared} {K : Frag}
end
end Att
namespace L2
open PySem PySem.Spec PyProof.Rows
theorem vals_ints : ∀ {vs : List Value} {ns : List Int}, IntsAre vs ns -> Vals (ns.map V.int) vs
  | _, _, .nil => .nil
  | _, _, .cons n t h => .cons ⟨t, rfl⟩ (vals_ints h)
def Only (H : Hp) : Prop := ∀ b, H b = none ∨ ∃ o xs, H b = some (.frz o (.lst xs))
theorem law_call {P : Program} {w : World} {K : PySem.W.Frag} {mg mb : Str -> Option Value} {CX : CXT} {k : Nat} {fa a : Addr} {fd : FuncData} {x : Str} {sp : Sp} {s₁ : Shared} {vs : List Value} {ns : List Int}
    (KX : K.In s₁.heap) (hns : s₁.heap.Ns mainGlobals mg) (hb : s₁.heap.Ns builtinsNs mb) (hbb : ∀ x : Str, x ≠ "__name__" -> mb x = bootBuiltins x) (hlim : s₁.heap.NoLimit) (hg : s₁.gens = #[])
    (ha : s₁.heap.get? a = some { cls := .type "list", data := .seq vs.toArray }) (hi : IntsAre vs ns) (hl : ns.length <= sizeLine) (hr : Room k callerA)
    (F : ∀ base : Heap, K.In base -> base.Ns mainGlobals mg -> FnOk P w K mg base CX k fa fd [x] sp) (hbind : ∀ (s : Shared) (u : Value), BindsTo s fd ⟨[u], []⟩ [(x, u)])
    (hsp : ∀ H : Hp, Only H -> SqL K H a (ns.map V.int) -> sp [.ref a] H (fun v _ => v = .bl true) fun _ _ _ => False)
    (hCX : ∀ H e s', CX [] H s₁ (fun _ _ _ => False) e s' -> False) :
    codeAny (model P w) callerA (.call (.ref fa) ⟨[.ref a], []⟩) (fun r s' => r = .ok (.ret (.bool true)) /\ OldK s₁.heap s'.heap /\ s'.os = s₁.os /\ AllBare s'.gens) s₁ := by
  have rv := vals_ints hi
  have lenV := hi.length
  -- from an abstract heap in which nothing but the script may be tracked
  have core : ∀ H : Hp, Only H -> SqL K H a (ns.map V.int) -> HOk P w H s₁.heap -> (∀ b, H b ≠ none -> b = a) -> (H a ≠ none -> K.lookup a = none) ->
      codeAny (model P w) callerA (.call (.ref fa) ⟨[.ref a], []⟩) (fun r s' => r = .ok (.ret (.bool true)) /\ OldK s₁.heap s'.heap /\ s'.os = s₁.os /\ AllBare s'.gens) s₁ := by
    intro H hO hS hok hA hK
    have base_of : ∀ {b : Addr} {o : Obj}, s₁.heap.get? b = some o -> H b = none -> (hidT s₁.heap H).get? b = some o := fun e n => hidT_get e n
    have noA : ∀ {b : Addr} {o : Obj} {es : Array DictEntry} {ep : Nat}, s₁.heap.get? b = some o -> o.data = .dict es ep -> H b = none := fun {b o es ep} e d => by
      cases q : H b with
      | none => rfl
      | some u =>
        have e' : b = a := hA b (by rw [q]; simp)
        subst e'
        rw [ha] at e; cases e
        have d' : Data.seq vs.toArray _ = Data.dict es ep := d
        cases d'
    have nsK : ∀ {b : Addr} {m : Str -> Option Value}, s₁.heap.Ns b m -> (hidT s₁.heap H).Ns b m := fun {b m} ⟨o, es, ep, e, d, r⟩ => ⟨o, es, ep, base_of e (noA e d), d, r⟩
    have hKb : K.In (hidT s₁.heap H) := fun b o e => base_of (KX b o e) (by
      cases q : H b with
      | none => rfl
      | some u =>
        have e' : b = a := hA b (by rw [q]; simp)
        subst e'
        rw [hK (by rw [q]; simp)] at e; cases e)
    have hM : Mod K mg (hidT s₁.heap H) := ⟨hKb, nsK hns, ⟨mb, nsK hb, hbb⟩, let ⟨mc, h1, h2⟩ := hlim; ⟨mc, nsK h1, h2⟩⟩
    have e0 : Env0 P w K mg (hidT s₁.heap H) callerA [] s₁ H := ⟨rfl, hM, fun b o e => of_hidT e, Nat.le_of_eq (hidT_size _ _), trivial, fun b hb => absurd (show b ∈ ([] : List Addr) from hb) (by simp), hok, .of_eq hg⟩
    refine codeAny_mono ((F _ hKb (nsK hns)).run callerA [] s₁ H ⟨[.ref a], []⟩ [.ref a] [.ref a] _ _ hr e0 (hbind s₁ (.ref a)) (.cons rfl .nil) (hsp H hO hS)) fun r s' h => ?_
    cases r with
    | error e => exact (hCX H e s' h).elim
    | ok fl =>
      cases fl with
      | next => exact False.elim h
      | brk => exact False.elim h
      | cont => exact False.elim h
      | ret u =>
        obtain ⟨v, H', os, bare, un, hok', r', q⟩ := h
        have q' : v = .bl true := q
        subst q'
        obtain rfl : u = Value.bool true := r'
        refine ⟨rfl, OldK.of_keep fun b o e => ?_, os, bare⟩
        cases q : H b with
        | none => exact un.keep b o e q (by intro z; exact absurd (show b ∈ ([] : List Addr) from z) (by simp)) (by simp)
        | some u =>
          rcases hO b with z | ⟨ob, xs, z⟩
          · rw [q] at z; cases z
          · have z2 := un.frzs b ob _ z
            obtain ⟨e1, _⟩ := hok b _ z
            obtain ⟨e2, _⟩ := hok' b _ z2
            rw [e] at e1; cases e1
            exact e2
  cases hk : K.lookup a with
  | some o =>
    -- the script is one of the module's own objects
    have e := KX a o hk
    rw [ha] at e
    cases e
    refine core (fun _ => none) (fun _ => .inl rfl) (.inr ⟨_, vs.toArray, _, hk, rfl, rfl, rfl, by rw [List.size_toArray, lenV]; exact hl, by simpa using rv⟩) (fun b u z => by have z' : (none : Option HO) = some u := z; cases z') (fun b z => absurd rfl z) fun z => absurd rfl z
  | none =>
    refine core (fun b => if b = a then some (.frz { cls := .type "list", data := .seq vs.toArray } (.lst (ns.map V.int))) else none) (fun b => ?_) (.inl (.inr ⟨{ cls := .type "list", data := .seq vs.toArray }, if_pos rfl⟩)) (fun b u z => ?_) (fun b z => ?_) fun _ => hk
    · by_cases hb : b = a
      · exact .inr ⟨_, _, if_pos hb⟩
      · exact .inl (if_neg hb)
    · by_cases hb : b = a
      · have z' := (if_pos hb).symm.trans z
        cases z'
        subst hb
        exact ⟨ha, by rw [List.length_map]; exact hl, vs, _, rv, ha⟩
      · have z' := (if_neg hb).symm.trans z
        cases z'
    · by_cases hb : b = a
      · exact hb
      · exact absurd (if_neg hb) z
end L2
namespace L2
open PySem PySem.Spec PyProof.Rows
end L2
/- THE LAST THEOREM (shape; LID, My.* are yours):
   My.Adr: a structure of the addresses that your layer names (classes, functions); My.Txt K t: a structure (Prop) of the equations over K;
   My.txt_mk : {K} {implicit addresses ..} (e1 : nsIn K mainGlobals "law" = some (some (.ref f))) (e2 : K.lookup f = some ⟨oc, od, .func (fnOf "law" "law" params body scope dV kV doc pm an cdv ct), sl⟩) (e3 : codeIn K cdv "law" = true) .. : ∃ t, My.Txt K t
set_option maxRecDepth 100000 in
set_option maxHeartbeats 0 in
theorem PySem.Challenge.cw_LID_holds : PySem.Challenge.rw_LID.Holds := by
  w_on; o_law; k_head; (case hw => w_witness2)
  k_fill
  refine L2.walk_of (l := PySem.Challenge.rw_LID) (n := 63) (k := 40) (x := "script") (CX := fun w => ..) (sp := fun _ => My.sp_law) rfl (by decide) rfl ⟨rfl, by decide, by decide⟩ (fun w h Y => PySem.W.kIn_of Y) ?F ?S ?C
  case F =>
    intro w mg fa h KX G hmg
    have T : ∃ t, My.Txt (L2.KOf KX) t := by
      dsimp only [L2.KOf]                          -- K must stand as «<heap const> w.params» for k_is
      refine' My.txt_mk ?e1 ?e2 ?e3 ..
      (case e1 => PySem.W.k_is)                    -- in the order: a name -> its address -> its object -> its parts
      (case e2 => PySem.W.k_is)
      ..
    obtain ⟨t, T⟩ := T
    have e0 := hmg.symm.trans (PySem.W.mg_of KX G T.law)
    cases e0                                       -- fa is the law's own address
    exact ⟨_, fun s u => .of_eq rfl, fun base kb nb => My.law_fn T kb nb⟩     -- if «.of_eq rfl» comes too early: refine' ⟨_, ?b, fun base kb nb => My.law_fn T kb nb⟩; exact fun s u => .of_eq rfl
  case S => exact fun w H a ns hl hO hS => ..
  case C => exact ..
(the tactic k_is has no namespace: write k_is) -/
namespace L2
open PySem PySem.Spec PyProof.Rows
def defArgs (s : Stmt) : Arguments := match s with
  | .FunctionDef _ a _ _ _ _ _ _ _ _ => a
  | _ => { posonlyargs := [], args := [], vararg := none, kwonlyargs := [], kw_defaults := [], kwarg := none, defaults := [] }
def defBody (s : Stmt) : List Stmt := match s with
  | .FunctionDef _ _ b _ _ _ _ _ _ _ => b
  | _ => []
def defScope (s : Stmt) : Scope := match s with
  | .FunctionDef _ _ _ _ _ _ sc _ _ _ => sc
  | _ => { kind := .function, names := [], isGenerator := false, isCoroutine := false }
abbrev CX0 : CXT := fun _ _ _ _ _ _ => False
abbrev E0 : XK := fun _ _ _ => False
structure Fun (K : PySem.W.Frag) (x qual : Str) (st : Stmt) (f : Addr) (fd : FuncData) : Prop where
  ex : ∃ (oc : Value) (od : Option Addr) (kV doc pm : Value) (an : Option Addr) (cdv ct : Value) (osl : Array (Option Value)),
    fd = PySem.W.fnOf x qual (defArgs st) (defBody st) (defScope st) .none kV doc pm an cdv ct /\ K.lookup f = some ⟨oc, od, .func fd, osl⟩ /\ PySem.W.codeIn K cdv qual = true
  kp : PySem.W.keepIn K (.ref f) = true
section
variable {P : Program} {w : World} {K : PySem.W.Frag} {mg : Str -> Option Value} {base : Heap}
theorem Fun.ok {x qual : Str} {st : Stmt} {f : Addr} {fd : FuncData} {N ps : List Str} {k : Nat} {sp : Sp} (F : Fun K x qual st f fd) (S : FnScope N ps (defScope st)) (len : ∀ vs H Q E, sp vs H Q E -> vs.length = ps.length)
    (hbody : ∀ (cdv : Value) (A : Around) (outer : List Env) (s : Shared) (H : Hp) (vs : List V) (Q : VK) (E : XK), Room k (A.deeper (envOfC qual (defScope st) s.heap.objs.size f cdv)) -> sp vs H Q E ->
      ∃ t, PSs (cxOf CX0 P w K mg base N qual (defScope st) f cdv A outer s H E).nox (defBody st) t /\ t { nx := fun _ H' => Q .non H', rt := Q } (start N vs) H) : FnOk P w K mg base CX0 (k + 1) f fd ps sp := by
  obtain ⟨oc, od, kV, doc, pm, an, cdv, ct, osl, rfl, lk, hcd⟩ := F.ex
  refine fn_of lk hcd S len fun A outer s H vs Q E hr hsp => ?_
  obtain ⟨t, h, q⟩ := hbody cdv A outer s H vs Q E hr hsp
  exact ⟨t, h.nox, q⟩
theorem fun_mk {x qual : Str} {st : Stmt} {f : Addr} {oc : Value} {od an : Option Addr} {osl : Array (Option Value)} {kV doc pm cdv ct : Value} (l : K.lookup f = some ⟨oc, od, .func (PySem.W.fnOf x qual (defArgs st) (defBody st) (defScope st) .none kV doc pm an cdv ct), osl⟩)
    (c : PySem.W.codeIn K cdv qual = true) (k : PySem.W.keepIn K (.ref f) = true) : Fun K x qual st f (PySem.W.fnOf x qual (defArgs st) (defBody st) (defScope st) .none kV doc pm an cdv ct) := ⟨⟨oc, od, kV, doc, pm, an, cdv, ct, osl, rfl, l, c⟩, k⟩
end
theorem small1000 {n : Nat} (h : n <= 1000) : n < sizeLine := Nat.lt_of_le_of_lt h (by decide)
section
variable {X : Cx}
theorem pv (i : Nat) {x : Str} {pos : Pos} (hN : X.N[i]? = some x := by rfl) (hv : Vis X.env.scope x := by first | exact Or.inl rfl | exact Or.inr (Or.inl rfl) | exact Or.inr (Or.inr rfl)) (hd : (x == ("__debug__" : Str)) = false := by decide)
    (hcd : (x == ("__classdict__" : Str)) = false := by decide) : PE X (.Name x pos) (tVar i) := pe_var hN hv hd hcd
end
theorem iteT {A B : Prop} (h : A) : if true = true then A else B := by
  rw [if_pos rfl]
  exact h
def Same (H H' : Hp) : Prop := ∀ b o, H b = some o -> H' b = some o
theorem Same.refl (H : Hp) : Same H H := fun _ _ h => h
theorem Same.trans {H H1 H2 : Hp} (a : Same H H1) (b : Same H1 H2) : Same H H2 := fun c o h => b c o (a c o h)
theorem Same.seq {K : PySem.W.Frag} {H H' : Hp} {a : Addr} {xs : List V} (e : Same H H') (h : SqL K H a xs) : SqL K H' a xs := by
  rcases h with (h | ⟨o, h⟩) | h
  · exact .inl (.inl (e _ _ h))
  · exact .inl (.inr ⟨o, e _ _ h⟩)
  · exact .inr h
section
variable {κ : Type} [DecidableEq κ]
end
end L2
set_option Elab.async false
set_option linter.all false
set_option maxRecDepth 100000
set_option maxHeartbeats 4000000
namespace L2
open PySem PySem.Spec PyProof.Rows
theorem ObjOk.there {P : Program} {w : World} {H : Hp} {h : Heap} {a : Addr} {o : HO} (x : ObjOk P w H h a o) : ∃ u, h.get? a = some u := by
  cases o with
  | lst xs => obtain ⟨_, _, _, _, e⟩ := x; exact ⟨_, e⟩
  | tup xs => obtain ⟨_, _, _, o, e, _⟩ := x; exact ⟨_, e⟩
  | dK kvs => obtain ⟨_, _, _, _, o, _, _, e, _⟩ := x; exact ⟨_, e⟩
  | dT kvs => obtain ⟨_, _, _, _, o, _, _, e, _⟩ := x; exact ⟨_, e⟩
  | set S n => obtain ⟨o, _, _, _, e, _⟩ := x; exact ⟨_, e⟩
  | ins C dx fs => obtain ⟨_, _, _, e, _⟩ := x; exact ⟨_, e⟩
  | own y => exact x
  | xd fs => obtain ⟨_, ⟨_, _, _, e, _⟩, _⟩ := x; exact ⟨_, e⟩
  | rng lo hi => obtain ⟨_, _, _, e⟩ := x; exact ⟨_, e⟩
  | frz ob u => obtain ⟨e, _⟩ := x; exact ⟨_, e⟩
  | tbl ps => exact ⟨_, x⟩
  | met f y => exact ⟨_, x⟩
  | ext φ => exact x.2.1
structure Fly (P : Program) (w : World) (outer : List Env) (H : Hp) (s : Shared) (H' : Hp) (B : Heap) (s' : Shared) : Prop where
  os : s'.os = s.os
  bare : AllBare s'.gens
  un : Un (frs outer) [] H H' s.heap s'.heap
  kb : ∀ b o, s.heap.get? b = some o -> H b = none -> b ∉ frs outer -> B.get? b = some o
  kt : ∀ b o, s.heap.get? b = some o -> b ∉ frs outer -> ∃ o', B.get? b = some o'
  hok : HOk P w H' B
def CXF (P : Program) (w : World) : CXT := fun outer H s E e s' =>
  ∃ (ea : Addr) (cls a0 : Value) (H' : Hp) (B : Heap), e = .ref ea /\ Fly P w outer H s H' B s' /\ Heap.FlyingW B outer ea cls a0 s'.heap /\ E cls none H'
section
variable {P : Program} {w : World} {outer : List Env} {H H' : Hp} {s s' : Shared} {B h2 base : Heap}
theorem Fly.land {ea : Addr} {cls a0 : Value} {l : List Env} (F : Fly P w outer H s H' B s') (fr : s.heap.FunFrames base outer) (frf : ∀ b ∈ frs outer, H b = none) (fl : Heap.FlyingW B l ea cls a0 h2) (up : s'.heap.UpToSlots h2) : Un (frs outer) [] H H' s.heap h2 := by
  have sl : ∀ b o, s.heap.get? b = some o -> b ∈ frs outer -> ∃ sl, h2.get? b = some { o with slots := sl } := fun b o e hb => by
    obtain ⟨_, o', ho', hd⟩ := fr.mem hb
    rw [e] at ho'
    cases ho'
    obtain ⟨sl, e1⟩ := F.un.slot b o e (frf b hb) hb (by simp)
    obtain ⟨sl', e2⟩ := up b _ e1 hd
    exact ⟨sl', e2⟩
  refine ⟨fun b o e n hb _ => fl.1 b o (F.kb b o e n hb), fun b o e n hb _ => sl b o e hb, F.un.free, fun b o e _ => ?_, F.un.tups, F.un.frzs, F.un.tbls⟩
  by_cases hb : b ∈ frs outer
  · obtain ⟨q, e1⟩ := sl b o e hb
    exact ⟨_, e1⟩
  · obtain ⟨o', e1⟩ := F.kt b o e hb
    exact ⟨o', fl.1 b o' e1⟩
end
def Raises (X : Cx) (E : St -> XK) : Prop := ∀ (pins : List (Addr × Obj)) (σ : St) (H : Hp) (s : Shared) (ea : Addr) (cls : Value) (args : List Value) (h' : Heap),
  Inv X pins σ H s -> Heap.MadeExcOf s.heap h' ea cls args -> E σ cls none H -> X.xe (.ref ea) { s with heap := h' }
def PassesS (CX : CXT) (X : Cx) (E : St -> XK) : Prop := ∀ (pins : List (Addr × Obj)) (σ : St) (H : Hp) (s : Shared) (e : Value) (s' : Shared), Inv X pins σ H s -> CX X.stack H s (E σ) e s' -> X.xe e s'
section
variable {X : Cx} {pins : List (Addr × Obj)} {σ : St} {H : Hp} {s : Shared}
theorem Inv.notStk (I : Inv X pins σ H s) {b : Addr} {o : Obj} (e : X.s₀.heap.get? b = some o) (hb : b ∉ X.fs) : b ∉ frs X.stack := fun z => by
  rcases List.mem_cons.mp (I.stkSub b z) with q | q
  · exact absurd (Nat.lt_of_lt_of_le (Heap.lt_size e) I.ok.above) (by rw [q]; exact Nat.lt_irrefl _)
  · exact hb q
theorem Inv.fly (I : Inv X pins σ H s) {h' : Heap} {ea : Addr} {cls : Value} {args : List Value} (M : Heap.MadeExcOf s.heap h' ea cls args) :
    Fly X.prog X.w X.stack H s H (PySem.W.hideAll s.heap (frs X.stack)) { s with heap := h' } := by
  refine ⟨rfl, I.bare, Un.kept M.keeps, fun b o e _ hb => PySem.W.hideAll_get _ e hb, fun b o e hb => ⟨o, PySem.W.hideAll_get _ e hb⟩, fun a o e => ?_⟩
  refine (I.hok a o e).stay (fun b u hb q => PySem.W.hideAll_get _ q fun z => ?_) (fun _ q => q) fun _ _ q => q
  have n := I.stkFree b z
  rcases hb with rfl | hb
  · rw [n] at e; cases e
  · rw [n] at hb; cases hb
end
section
variable {P : Program} {w : World} {K : PySem.W.Frag} {mg : Str -> Option Value} {base : Heap} {N : List Str} {qual : Str} {scope : Scope} {f : Addr} {cd : Value} {A : Around} {outer : List Env} {s : Shared} {H : Hp} {E : XK}
theorem fly_out {pins : List (Addr × Obj)} {σ : St} {H1 H' : Hp} {s1 s' : Shared} {B h2 : Heap} {ea : Addr} {cls a0 : Value} (I : Inv (cxOf (CXF P w) P w K mg base N qual scope f cd A outer s H E) pins σ H1 s1)
    (F : Fly P w (envOfC qual scope s.heap.objs.size f cd :: outer) H1 s1 H' B s') (fl : Heap.FlyingW B outer ea cls a0 h2) (up : s'.heap.UpToSlots h2) : Fly P w outer H s H' B { s' with heap := h2 } := by
  have u := F.land I.stack I.stkFree fl up
  have J := I.call (h' := h2) (g' := s'.gens) (t' := s'.toks) (d' := s'.drawn) (ch := []) u (F.hok.kept fl.1) F.bare (fun b z => absurd z (by simp))
  refine ⟨F.os.trans I.os, F.bare, J.base, fun b o e n hb => ?_, fun b o e hb => ?_, F.hok⟩
  · exact F.kb b o (I.base.keep b o e n hb (by simp [cxOf])) (I.base.free b o e n (by simp [cxOf])) (I.notStk e hb)
  · obtain ⟨o', e1⟩ := I.base.there b o e (by simp [cxOf])
    exact F.kt b o' e1 (I.notStk e hb)
theorem raises_fn : Raises (cxOf (CXF P w) P w K mg base N qual scope f cd A outer s H E) (fun _ => E) := by
  intro pins σ H1 s1 ea cls args h' I M hE
  have F := I.fly M
  show wpAny (model P w) _ (leaving (envOfC qual scope s.heap.objs.size f cd) (.ref ea)) _ _ _
  refine wpAny_leaves_madeW (base := PySem.W.hideAll s1.heap (frs (envOfC qual scope s.heap.objs.size f cd :: outer))) (h := s1.heap) I.ok.frames rfl (fun b o q => PySem.W.of_hideAll _ q)
    (PySem.W.funFrames_hide I.stack fun env he b hb => List.mem_filterMap.mpr ⟨env, he, hb⟩) M fun h2 t fl _ _ up => ?_
  exact ⟨ea, cls, .ref t, H1, _, rfl, fly_out I F fl up, fl, hE⟩
theorem passes_fn : PassesS (CXF P w) (cxOf (CXF P w) P w K mg base N qual scope f cd A outer s H E) (fun _ => E) := by
  intro pins σ H1 s1 e s' I h
  obtain ⟨ea, cls, a0, H', B, rfl, F, fl, hE⟩ := h
  show wpAny (model P w) _ (leaving (envOfC qual scope s.heap.objs.size f cd) (.ref ea)) _ _ s'
  refine wpAny_leaves_onW I.ok.frames rfl fl fun h2 fl' up => ?_
  exact ⟨ea, cls, a0, H', B, rfl, fly_out I F fl' up, fl', hE⟩
end
theorem Fun.okX {P : Program} {w : World} {K : PySem.W.Frag} {mg : Str -> Option Value} {base : Heap} {x qual : Str} {st : Stmt} {f : Addr} {fd : FuncData} {N ps : List Str} {k : Nat} {sp : Sp} (F : Fun K x qual st f fd) (S : FnScope N ps (defScope st)) (len : ∀ vs H Q E, sp vs H Q E -> vs.length = ps.length)
    (hbody : ∀ (cdv : Value) (A : Around) (outer : List Env) (s : Shared) (H : Hp) (vs : List V) (Q : VK) (E : XK), Room k (A.deeper (envOfC qual (defScope st) s.heap.objs.size f cdv)) -> sp vs H Q E ->
      ∃ t, PSs (cxOf (CXF P w) P w K mg base N qual (defScope st) f cdv A outer s H E) (defBody st) t /\ t { nx := fun _ H' => Q .non H', rt := Q } (start N vs) H) : FnOk P w K mg base (CXF P w) (k + 1) f fd ps sp := by
  obtain ⟨oc, od, kV, doc, pm, an, cdv, ct, osl, rfl, lk, hcd⟩ := F.ex
  exact fn_of lk hcd S len fun A outer s H vs Q E hr hsp => hbody cdv A outer s H vs Q E hr hsp
theorem pown_fn {P : Program} {w : World} {K : PySem.W.Frag} {mg : Str -> Option Value} {base : Heap} {N : List Str} {qual : Str} {scope : Scope} {f : Addr} {cd : Value} {A : Around} {outer : List Env} {s : Shared} {H : Hp} {E : XK} :
    PassesOwn (model P w) (cxOf (CXF P w) P w K mg base N qual scope f cd A outer s H E).A (cxOf (CXF P w) P w K mg base N qual scope f cd A outer s H E).env (cxOf (CXF P w) P w K mg base N qual scope f cd A outer s H E).xe := PassesOwn.leaving
theorem FnOk.cxf {P : Program} {w : World} {K : PySem.W.Frag} {mg : Str -> Option Value} {base : Heap} {k : Nat} {f : Addr} {fd : FuncData} {ps : List Str} {sp : Sp} (F : FnOk P w K mg base CX0 k f fd ps sp) (CX : CXT) : FnOk P w K mg base CX k f fd ps sp :=
  ⟨F.len, fun A outer s H args us vs Q E hr he hb hv hs => codeAny_mono (F.run A outer s H args us vs Q E hr he hb hv hs) fun r s' q => by
    cases r with
    | error e => exact False.elim q
    | ok fl => cases fl <;> exact q⟩
def tCallS (sp : Sp) (dvs : List V) (E : St -> XK) (t : TA) : TE := fun σ H Q => t σ H fun vs H1 => sp (vs ++ dvs) H1 Q (E σ)
section
variable {X : Cx} {CX : CXT} {k : Nat} {f C : Addr} {fd : FuncData} {ps : List Str} {sp : Sp} {dvs : List V} {ds : List Value} {E : St -> XK} {x m : Str} {p pos apos : Pos} {e o : Expr} {es : List Expr} {ta : TE} {t : TA}
theorem run_fnS {pins : List (Addr × Obj)} {σ : St} {H : Hp} {s : Shared} {Q : VK} {us : List Value} {vs : List V} (F : FnOk X.prog X.w X.K X.mg X.base CX k f fd ps sp) (hr : Room k X.A) (hb : Binds X.K fd ps ds) (hd : Vals dvs ds) (hx : PassesS CX X E)
    (I : Inv X pins σ H s) (r : Vals vs us) (h : sp (vs ++ dvs) H Q (E σ)) : wpAny (model X.prog X.w) X.A (call (.ref f) us) (EP X pins σ Q) X.xe s := by
  have r2 : Vals (vs ++ dvs) (us ++ ds) := r.append hd
  have hl : (us ++ ds).length = ps.length := by rw [← r2.length]; exact F.len _ _ _ _ h
  refine wpAny_call (codeAny_mono (F.run X.A X.stack s H ⟨us, []⟩ (us ++ ds) (vs ++ dvs) Q (E σ) hr I.env0 (hb s us I.kIn hl) r2 h) fun r s' hq => ?_)
  cases r with
  | error e => exact hx pins σ H s e s' I hq
  | ok fl =>
    cases fl with
    | ret u => exact I.after hq
    | next => exact False.elim hq
    | brk => exact False.elim hq
    | cont => exact False.elim hq
theorem pe_callS (F : FnOk X.prog X.w X.K X.mg X.base CX k f fd ps sp) (hr : Room k X.A) (hg : Gl X x) (hm : X.mg x = some (.ref f)) (hk : PySem.W.keepIn X.K (.ref f) = true) (hb : Binds X.K fd ps ds) (hd : Vals dvs ds) (hx : PassesS CX X E)
    (ha : PA X (e :: es) t) (hdb : (x == ("__debug__" : Str)) = false := by decide) (he : starEach (e :: es) X.env = (false, eval e X.env) :: starEach es X.env := by rfl) (hpl : (backTo pos (starEach es X.env)).any (·.1) = false := by rfl) :
    PE X (.Call (.Name x p) (e :: es) [] pos) (tCallS sp dvs E t) := by
  intro pins s σ H Q I h
  refine wpAny_Call_Name_kw (ld_glob I hg hm ?_ hdb)
  refine PySem.W.callWith_K (h₀ := X.base) I.ok.mod.kin hk (thn (ha pos pins s σ H _ I h) fun us s1 ⟨vs, H1, I1, r, q⟩ => ⟨I1.kIn, ?_⟩) he hpl
  exact run_fnS F hr hb hd hx I1 r q
end
abbrev veB : List Value := [.type "ValueError", .type "Exception", .type "BaseException", .type "object"]
theorem excObj_of {K : PySem.W.Frag} {h : Heap} {C : Addr} {bmB : List Value} {newId : String} (X : K.In h) (q : PySem.W.excIn K C bmB newId = true) :
    ∃ bm N nm q bs hdct sn sub ab col dd k0 k1 k2 k3 k5 mN, h.get? C = some (excClassObj nm q C N bs bm hdct sn sub ab col dd k0 k1 k2 k3 k5 newId) /\ h.Ns N mN /\ mN "__init__" = none /\ OwnTail h bmB bm := by
  unfold PySem.W.excIn at q
  split at q
  · rename_i dd cd sl ho
    split at q
    · rename_i C' bm k0 k1 k2 k3 n k5 hm hs
      simp only [Bool.and_eq_true, beq_iff_eq, Bool.not_eq_true'] at q
      obtain ⟨⟨⟨⟨⟨rfl, rfl⟩, hdel⟩, ht⟩, hok⟩, hni⟩ := q
      obtain ⟨nm, bs, mro, ns, qn, hd, sn, sub, ab, col, del⟩ := cd
      dsimp only at hm hdel hok hni
      subst hm hdel
      have hsl : sl = #[k0, k1, k2, k3, some (.builtin n), k5] := by
        obtain ⟨l⟩ := sl
        simp only at hs
        rw [hs]
      subst hsl
      exact ⟨bm, ns, nm, qn, bs, hd, sn, sub, ab, col, dd, k0, k1, k2, k3, k5, _, X _ _ ho, .of_isNs (PySem.W.isNs_of_in X hok), PySem.W.nsMap_none_of_in X hok hni, PySem.W.tail_of_in X ht⟩
    · cases q
  · cases q
def tRaise (E : St -> XK) (C : Addr) (t : TA) : TS := fun _ σ H => t σ H fun vs H1 => vs.length <= sizeLine /\ E σ (.ref C) none H1
theorem ps_raise {X : Cx} {E : St -> XK} {C : Addr} {x : Str} {np cpos pos : Pos} {e : Expr} {es : List Expr} {t : TA} (hc : X.calm = true) (hR : Raises X E) (q : PySem.W.excIn X.K C veB "ValueError.__new__" = true) (hg : Gl X x) (hm : X.mg x = some (.ref C)) (ha : PA X (e :: es) t)
    (hdb : (x == ("__debug__" : Str)) = false := by decide) (he : starEach (e :: es) X.env = (false, eval e X.env) :: starEach es X.env := by rfl) (hpl : (backTo cpos (starEach es X.env)).any (·.1) = false := by rfl) :
    PS X (.Raise (some (.Call (.Name x np) (e :: es) [] cpos)) none pos) (tRaise E C t) := by
  intro pins s σ H D I h
  obtain ⟨tl, N, nm, q, bs, hdct, sn, sub, ab, col, dd, k0, k1, k2, k3, k5, mN, hC, hN, hni, T⟩ := excObj_of I.ok.mod.kin q
  refine wpAny_Raise_call_subT (C := C) (nm := nm) (q := q) (N := N) (bs := bs) (bm := tl) (hdct := hdct) (sn := sn) (sub := sub) (ab := ab) (col := col) (dd := dd) (k0 := k0) (k1 := k1) (k2 := k2) (k3 := k3) (k5 := k5)
    PySem.F.excBase_ValueError (mN := mN) (T.hasType PySem.F.excBase_ValueError.hasBase) (I.ok.hd hc) (by rw [he]; show (false || (backTo cpos (starEach es X.env)).any (·.1)) = false; rw [hpl]; rfl) hni (ld_glob I hg hm ⟨rfl, ?_⟩ hdb)
  have h1 := ha cpos pins s σ H _ I h
  rw [he] at h1 ⊢
  refine Calls.evalArgs_plain (thn h1 fun us s2 ⟨vs, H2, I2, r, z, hE⟩ => ⟨rfl, by rw [← r.length]; exact z, I2.bk _ _ hC, hN.keeps I2.bk, T.keeps I2.bk, fun h' ea M => ?_⟩)
  exact hR pins σ H2 s2 ea (.ref C) us h' I2 M hE
end L2
set_option Elab.async false
set_option linter.all false
set_option maxRecDepth 100000
set_option maxHeartbeats 4000000
namespace L2
open PySem PySem.Spec PyProof.Rows
section
variable {X : Cx} {pins : List (Addr × Obj)} {σ : St} {H : Hp} {s : Shared}
theorem Inv.adopt {a : Addr} {o : HO} (I : Inv X pins σ H s) (hn : H a = none) (h0 : X.s₀.heap.get? a = none) (hL : a ≠ X.env.locals) (hC : ∀ x c, X.env.cells.lookup x = some c -> c ≠ a) (hp : ∀ p ∈ X.pn ++ pins, p.1 ≠ a) (ok : ObjOk X.prog X.w (upd H a o) s.heap a o) : Inv X pins σ (upd H a o) s := by
  refine ⟨I.ok, I.os, I.bare, ⟨I.base.keep, I.base.slot, fun b u e n hx => ?_, I.base.there, fun b xs q => ?_, fun b u xs q => ?_, fun b ps q => ?_⟩, I.loc, I.cell, ?_, fun x c e => ?_, fun p hp' => ?_, fun b u e => ?_, I.len⟩
  · rw [upd_ne (fun z => by rw [z, h0] at e; cases e)]; exact I.base.free b u e n hx
  · have z := I.base.tups b xs q
    rw [upd_ne (ne_of_none z hn)]; exact z
  · have z := I.base.frzs b u xs q
    rw [upd_ne (ne_of_none z hn)]; exact z
  · obtain ⟨more, z⟩ := I.base.tbls b ps q
    exact ⟨more, by rw [upd_ne (ne_of_none z hn)]; exact z⟩
  · rw [upd_ne (Ne.symm hL)]; exact I.free
  · rw [upd_ne (hC x c e)]; exact I.freeC x c e
  · obtain ⟨e, n, ne, nf, d⟩ := I.pin p hp'
    exact ⟨e, by rw [upd_ne (hp p hp')]; exact n, ne, nf, d⟩
  · by_cases hb : b = a
    · subst hb; rw [upd_same] at e; cases e; exact ok
    · rw [upd_ne hb] at e
      exact (I.hok b u e).stay (fun c v _ q => q) (fun c q => by rw [upd_ne (ne_of_none q hn)]; exact q) fun c xs q => by rw [upd_ne (ne_of_none q hn)]; exact q
end
section
variable {X : Cx} {pins pins' pn : List (Addr × Obj)} {σ : St} {H : Hp} {s : Shared} {E : Value -> Shared -> Prop} {ea : Addr}
end
end L2
set_option Elab.async false
set_option linter.all false
set_option maxRecDepth 100000
set_option maxHeartbeats 4000000
namespace L2
open PySem PySem.Spec PyProof.Rows
section
variable {X : Cx}
theorem op_isB : OpR X (compareOp .Is) (fun x y H Q => ∃ a b, x = .bl a /\ y = .bl b /\ Q (.bl (a == b)) H) := by
  intro pins s σ H x y v u Q I rx ry h
  obtain ⟨a, b, rfl, rfl, q⟩ := h
  cases rx
  cases ry
  exact is_bool (fin_bl I q rfl)
theorem op_isnotB : OpR X (compareOp .IsNot) (fun x y H Q => ∃ a b, x = .bl a /\ y = .bl b /\ Q (.bl (a != b)) H) := by
  intro pins s σ H x y v u Q I rx ry h
  obtain ⟨a, b, rfl, rfl, q⟩ := h
  cases rx
  cases ry
  exact isnot_bool (fin_bl I q rfl)
end
section
open PySem.W PySem.Calls Builtin Builtin.ObjectAttr Builtin.Getset_descriptor
variable {prog : Program} {w : World} {A : Around} {E : Value -> Shared -> Prop} {s : Shared} {K : Frag} {x C : Addr}
end
end L2
set_option Elab.async false
set_option linter.all false
set_option maxRecDepth 100000
set_option maxHeartbeats 4000000
namespace L2
open PySem PySem.Spec PyProof.Rows
def clStep (env : Env) (x : Str × NameKind) (cs : List (Str × Addr)) : Sem (ForInStep (List (Str × Addr))) :=
  if (x.2 == NameKind.free) = true then (cellOf env x.1 >>= fun a => pure (ForInStep.yield ((x.1, a) :: cs))) else pure (ForInStep.yield cs)
theorem closureFor_go {env : Env} : ∀ (names : List (Str × NameKind)) (cs : List (Str × Addr)), (∀ x ∈ names, x.2 = .free -> ∃ c, env.cells.lookup x.1 = some c) ->
    ∃ cl : List (Str × Addr), (forIn names cs (clStep env) : Sem (List (Str × Addr))) = pure cl /\
      (∀ y c, cl.lookup y = some c -> cs.lookup y = some c ∨ env.cells.lookup y = some c) /\ (∀ y, (∃ c, cs.lookup y = some c) -> ∃ c, cl.lookup y = some c) /\ ∀ x ∈ names, x.2 = .free -> ∃ c, cl.lookup x.1 = some c
  | [], cs, _ => ⟨cs, rfl, fun _ _ h => .inl h, fun _ h => h, fun _ h => nomatch h⟩
  | (n, k) :: r, cs, h => by
    by_cases hk : k = .free
    · subst hk
      obtain ⟨c, hc⟩ := h (n, .free) List.mem_cons_self rfl
      obtain ⟨cl, e, a, b, d⟩ := closureFor_go r ((n, c) :: cs) fun x hx => h x (List.mem_cons_of_mem _ hx)
      refine ⟨cl, ?_, fun y c' hy => ?_, fun y ⟨c', hy⟩ => ?_, fun x hx hf => ?_⟩
      · rw [List.forIn_cons]
        have e1 : cellOf env n = pure c := by unfold cellOf; rw [hc]
        have e2 : clStep env (n, .free) cs = pure (ForInStep.yield ((n, c) :: cs)) := by
          show (cellOf env n >>= fun a => pure (ForInStep.yield ((n, a) :: cs))) = _
          rw [e1]
          rfl
        rw [e2]
        exact e
      · rcases a y c' hy with z | z
        · rw [List.lookup_cons] at z
          split at z
          · rename_i q
            have : y = n := by simpa using q
            subst this
            cases z
            exact .inr hc
          · exact .inl z
        · exact .inr z
      · refine b y ?_
        rw [List.lookup_cons]
        split
        · exact ⟨_, rfl⟩
        · exact ⟨c', hy⟩
      · rcases List.mem_cons.mp hx with z | z
        · subst z
          refine b n ⟨c, ?_⟩
          rw [List.lookup_cons]; simp
        · exact d x z hf
    · have hb : (k == NameKind.free) = false := by simpa using hk
      obtain ⟨cl, e, a, b, d⟩ := closureFor_go r cs fun x hx => h x (List.mem_cons_of_mem _ hx)
      refine ⟨cl, ?_, a, b, fun x hx hf => ?_⟩
      · rw [List.forIn_cons]
        have e2 : clStep env (n, k) cs = pure (ForInStep.yield cs) := by
          unfold clStep
          rw [if_neg (by rw [hb]; decide)]
        rw [e2]
        exact e
      · rcases List.mem_cons.mp hx with z | z
        · subst z; exact absurd hf hk
        · exact d x z hf
theorem closureFor_of {scope : Scope} {env : Env} (h : ∀ x ∈ scope.names, x.2 = .free -> ∃ c, env.cells.lookup x.1 = some c) :
    ∃ cl, closureFor scope env = pure cl /\ (∀ y c, cl.lookup y = some c -> env.cells.lookup y = some c) /\ ∀ x ∈ scope.names, x.2 = .free -> ∃ c, cl.lookup x.1 = some c := by
  obtain ⟨cl, e, a, _, d⟩ := closureFor_go scope.names [] h
  refine ⟨cl, ?_, fun y c hy => ?_, d⟩
  · have e0 : closureFor scope env = (forIn scope.names [] (clStep env) >>= fun cs => pure cs) := by
      unfold closureFor
      congr 1
    rw [e0, e]
    rfl
  · rcases a y c hy with z | z
    · cases z
    · exact z
section
variable {prog : Program} {w : World} {A : Around} {R : Result -> Shared -> Prop} {s : Shared}
theorem compLoop_gen {elt target iter : Expr} {ifs : List Expr} {scope : Scope} {pos : Pos} {it acc : Value} {env : Env} (I : Nat -> Shared -> Prop)
    (turn : ∀ n s, I n s -> wpAny (model prog w) A (pyNext it) (fun r s₁ => match r with
      | none => R (.ok .next) s₁
      | some v => wpAny (model prog w) A (letOwnedTupleGo target it v) (fun _ s₁' => wpAny (model prog w) A (assign target env v) (fun _ s₂ =>
          wpAny (model prog w) A (forIn ifs true fun c r => if r = true then do let ok ← isTrue c env (eval c env); pure (ForInStep.yield ok) else pure (ForInStep.yield r)) (fun ok s₃ =>
            if ok = true then wpAny (model prog w) A (eval elt env) (fun x s₄ =>
              wpAny (model prog w) A (call (.builtin "list.append") [acc, x]) (fun _ s₅ => ∃ m, m < n /\ I m s₅) (notedBy (model prog w) A env fun e s' => R (.error e) s') s₄) (notedBy (model prog w) A env fun e s' => R (.error e) s') s₃
            else ∃ m, m < n /\ I m s₃) (notedBy (model prog w) A env fun e s' => R (.error e) s') s₂) (notedBy (model prog w) A env fun e s' => R (.error e) s') s₁') (notedBy (model prog w) A env fun e s' => R (.error e) s') s₁) (notedBy (model prog w) A env fun e s' => R (.error e) s') s)
    (n : Nat) (h : I n s) :
    codeAny (model prog w) A (.compLoop (.ListComp elt [⟨target, iter, ifs, 0⟩] scope pos) 0 it acc env) R s := by
  refine codeAny_loop rfl I (fun n s hI => ?_) n h
  show wpAny _ A ((compTurn (.ListComp elt [⟨target, iter, ifs, 0⟩] scope pos) 0 it acc env).onRaise (fun x => do noteFrame x env; theTreesLotGoes x)) _ _ s
  refine wpAny_noted ?_
  rw [compTurn_list]
  refine wpAny_bind (wpAny_standAt (wpAny_bind (wpAny_mono (turn n s hI) (fun r s₁ h₁ => ?_) fun _ _ h' => h')))
  cases r with
  | none => exact wpAny_pure h₁
  | some v =>
    refine wpAny_bind (wpAny_mono h₁ (fun _ s₁' h₁' => ?_) fun _ _ h' => h')
    refine wpAny_bind (wpAny_mono h₁' (fun _ s₂ h₂ => wpAny_bind (wpAny_mono h₂ (fun ok s₃ h₃ => ?_) fun _ _ h' => h')) fun _ _ h' => h')
    cases ok with
    | false => exact wpAny_pure ⟨rfl, h₃⟩
    | true =>
      exact wpAny_bind (wpAny_bind (wpAny_mono h₃ (fun x s₄ h₄ => wpAny_bind (wpAny_mono h₄ (fun _ s₅ h₅ => wpAny_pure (wpAny_pure ⟨rfl, h₅⟩)) fun _ _ h' => h')) fun _ _ h' => h'))
end
def PIf (X : Cx) (ifs : List Expr) (t : TT) : Prop :=
  ∀ (pins : List (Addr × Obj)) (s : Shared) (σ : St) (H : Hp) (Q : Bool -> Hp -> Prop), Inv X pins σ H s -> t σ H Q ->
    wpAny (model X.prog X.w) X.A (forIn ifs true fun c r => if r = true then do let ok ← isTrue c X.env (eval c X.env); pure (ForInStep.yield ok) else pure (ForInStep.yield r)) (TP X pins σ Q) X.xe s
def tYes : TT := fun _ H Q => Q true H
theorem pif_nil {X : Cx} : PIf X [] tYes := fun _ _ _ H _ I h => wpAny_tests_nil ⟨H, I, h⟩
theorem pif_one {X : Cx} {c : Expr} {t : TT} (h : PT X c t) : PIf X [c] t := fun pins s σ H Q I hq => wpAny_tests_one (h pins s σ H Q I hq)
def cxComp (X : Cx) (N : List Str) (scope : Scope) (cl : List (Str × Addr)) (C : Addr) (s : Shared) (H : Hp) (fp : List Addr) (pins : List (Addr × Obj)) : Cx :=
  { X with N := N, s₀ := s, H₀ := H, env := compEnvC scope cl C X.env, outer := X.stack, ex := fp, fn := fun _ => false, pn := X.pn ++ pins, xe := fun _ _ => False }
theorem relabel_lookup {env : Env} : ∀ {names : List (Str × NameKind)} {x : Str} {k : NameKind}, (∀ y ∈ names, y.2 ≠ .cell) -> (k = .cell ∨ k = .free) ->
    (names.map fun (n, k) => if (k == NameKind.free && env.scope.kind == .function && env.kindOf n == some .cell) then (n, NameKind.cell) else (n, k)).lookup x = some k -> names.lookup x = some .free
  | [], _, _, _, _, h => by cases h
  | (n, k') :: r, x, k, hc, hk, h => by
    have ih := @relabel_lookup env r x k (fun y hy => hc y (List.mem_cons_of_mem _ hy)) hk
    have h' : List.lookup x ((if (k' == NameKind.free && env.scope.kind == .function && env.kindOf n == some .cell) = true then (n, NameKind.cell) else (n, k')) :: (r.map fun (n, k) => if (k == NameKind.free && env.scope.kind == .function && env.kindOf n == some .cell) then (n, NameKind.cell) else (n, k))) = some k := h
    rw [List.lookup_cons]
    by_cases hx : (x == n) = true
    · rw [hx]
      by_cases c : (k' == NameKind.free && env.scope.kind == .function && env.kindOf n == some .cell) = true
      · simp only [Bool.and_eq_true, beq_iff_eq] at c
        rw [c.1.1]
      · rw [if_neg c, List.lookup_cons, hx] at h'
        have e : k' = k := Option.some.inj h'
        subst e
        rcases hk with z | z
        · exact absurd z (hc (n, k') List.mem_cons_self)
        · rw [z]
    · have hx' : (x == n) = false := by simpa using hx
      rw [hx']
      refine ih ?_
      by_cases c : (k' == NameKind.free && env.scope.kind == .function && env.kindOf n == some .cell) = true
      · rw [if_pos c, List.lookup_cons, hx'] at h'
        exact h'
      · rw [if_neg c, List.lookup_cons, hx'] at h'
        exact h'
theorem relabel_free {env : Env} : ∀ {names : List (Str × NameKind)} {x : Str}, names.lookup x = some .free ->
    (names.map fun (n, k) => if (k == NameKind.free && env.scope.kind == .function && env.kindOf n == some .cell) then (n, NameKind.cell) else (n, k)).lookup x = some .cell ∨
    (names.map fun (n, k) => if (k == NameKind.free && env.scope.kind == .function && env.kindOf n == some .cell) then (n, NameKind.cell) else (n, k)).lookup x = some .free
  | [], _, h => by cases h
  | (n, k') :: r, x, h => by
    have ih := @relabel_free env r x
    show List.lookup x ((if (k' == NameKind.free && env.scope.kind == .function && env.kindOf n == some .cell) = true then (n, NameKind.cell) else (n, k')) :: _) = _ ∨ List.lookup x ((if (k' == NameKind.free && env.scope.kind == .function && env.kindOf n == some .cell) = true then (n, NameKind.cell) else (n, k')) :: _) = _
    rw [List.lookup_cons] at h
    by_cases hx : (x == n) = true
    · rw [hx] at h
      have e : k' = .free := Option.some.inj h
      subst e
      by_cases c : (NameKind.free == NameKind.free && env.scope.kind == .function && env.kindOf n == some .cell) = true
      · rw [if_pos c]; simp only [List.lookup_cons, hx]; exact .inl trivial
      · rw [if_neg c]; simp only [List.lookup_cons, hx]; exact .inr trivial
    · have hx' : (x == n) = false := by simpa using hx
      rw [hx'] at h
      by_cases c : (k' == NameKind.free && env.scope.kind == .function && env.kindOf n == some .cell) = true
      · rw [if_pos c]; simp only [List.lookup_cons, hx']; exact ih h
      · rw [if_neg c]; simp only [List.lookup_cons, hx']; exact ih h
def tComp (wi : TI) (σ0 : St -> St) (g : TG) (ti : TT) (te : TE) : TE := fun σ H Q => wi σ H fun J H1 => ∀ D, H1 D = none -> ∃ W : Nat -> Nat -> St -> Hp -> Prop, (∃ m, W 0 m (σ0 σ) (upd H1 D (.lst []))) /\ ∀ i m σ' H', W i m σ' H' ->
  (J.stop i H' /\ Q (.ref D) H') ∨ (J.go i H' /\ ∀ x H2, J.yld i H' x H2 -> g x σ' H2 fun σ2 H3 => ti σ2 H3 fun b H4 => if b = true then te σ2 H4 fun y H5 => ∃ ys, H5 D = some (.lst ys) /\ ys.length < sizeLine /\ ∃ m', m' < m /\ W (i + 1) m' σ2 (upd H5 D (.lst (ys ++ [y])))
    else ∃ m', m' < m /\ W (i + 1) m' σ2 H4)
structure Frees (X : Cx) (scope : Scope) (N : List Str) (σ0 : St -> St) : Prop where
  len : ∀ σ, (σ0 σ).length = N.length
  at_ : ∀ (σ : St) (i : Nat) (y : Str) (v : V), N[i]? = some y -> (σ0 σ)[i]? = some (some v) -> scope.names.lookup y = some .free /\ ∃ j : Nat, X.N[j]? = some y /\ σ[j]? = some (some v)
theorem pe_comp {X : Cx} {elt tg iter : Expr} {ifs : List Expr} {scope : Scope} {pos : Pos} {N : List Str} {σ0 : St -> St} {wi : TI} {g : TG} {ti : TT} {te : TE}
    (hc : X.calm = true) (hF : Frees X scope N σ0) (hvis : ∀ y ∈ scope.names, y.2 = .free -> X.env.kindOf y.1 = some .cell ∨ X.env.kindOf y.1 = some .free)
    (hcell : ∀ y ∈ scope.names, y.2 ≠ .cell) (hkind : scope.kind = .function) (hnames : ∀ y ∈ scope.names, y.2 = .local -> scope.names.lookup y.1 = some .local) (hfl : ∀ y, scope.names.lookup y = some .free -> (y, NameKind.free) ∈ scope.names)
    (hi : PI X tg iter wi) (hg : ∀ cl C s H fp pins, PG (cxComp X N scope cl C s H fp pins) tg g) (ht : ∀ cl C s H fp pins, PIf (cxComp X N scope cl C s H fp pins) ifs ti) (he : ∀ cl C s H fp pins, PE (cxComp X N scope cl C s H fp pins) elt te)
    (hs : ∀ x, foldedSetIterable iter X.env x = pure x := by intro _; rfl) : PE X (.ListComp elt [⟨tg, iter, ifs, 0⟩] scope pos) (tComp wi σ0 g ti te) := by
  intro pins s σ H Q I h
  obtain ⟨cl, hclos, hsub, hhas⟩ := closureFor_of (scope := scope) (env := X.env) fun y hy hf => I.ok.has y.1 (hvis y hy hf)
  rw [eval_ListComp]
  refine wpAny_comprehension_free (use := none) rfl hs hclos hkind hnames (thn (hi pins s σ H _ I h) fun v s1 h1 => thn h1 fun itv s2 h2 => ?_)
  obtain ⟨it, fp, tn, J, H2, e, I2, T, st2, f2, q2⟩ := h2
  subst e
  refine wpAny_newObj_type (wpAny_newFunctionEnv hcell (by intro y hy; simp at hy) (fun h₁ hns₁ hsb₁ => ?_) hkind)
  dsimp only at hns₁ hsb₁ ⊢
  generalize hH2 : s2.heap.push { cls := .type "list", dict := none, data := .seq ([] : List Value).toArray } = G2 at hns₁ hsb₁ ⊢
  have hC : G2.objs.size = s2.heap.objs.size + 1 := by rw [← hH2, Heap.size_push]
  have hDC : s2.heap.objs.size ≠ G2.objs.size := by rw [hC]; exact Nat.ne_of_lt (Nat.lt_succ_self _)
  have below : ∀ b, b < s2.heap.objs.size -> b ≠ G2.objs.size /\ b ≠ s2.heap.objs.size := fun b hb => ⟨by rw [hC]; exact Nat.ne_of_lt (Nat.lt_succ_of_lt hb), Nat.ne_of_lt hb⟩
  have old : ∀ b o, s2.heap.get? b = some o -> h₁.get? b = some o := fun b o e => hsb₁.extBut b o (below b (Heap.lt_size e)).1 (Heap.get?_push_of_some _ (hH2 ▸ Heap.get?_push_of_some _ e))
  have hD : h₁.get? s2.heap.objs.size = some { cls := .type "list", dict := none, data := .seq ([] : List Value).toArray } := hsb₁.extBut _ _ hDC (Heap.get?_push_of_some _ (hH2 ▸ Heap.get?_push_size _ rfl))
  have nD : H2 s2.heap.objs.size = none := I2.hok.fresh (Nat.le_refl _)
  have nC : H2 G2.objs.size = none := I2.hok.fresh (by rw [hC]; exact Nat.le_succ _)
  have fpl : ∀ b ∈ fp, b < s2.heap.objs.size := fun b hb => by
    obtain ⟨o, e, _⟩ := T.obj _ _ st2 b hb
    exact Heap.lt_size e
  have cells : ∀ y c, cl.lookup y = some c -> ∃ v, s2.heap.IsCell c v := fun y c e => I2.cell y c (hsub y c e)
  have cellLt : ∀ y c, cl.lookup y = some c -> c < s2.heap.objs.size := fun y c e => by
    obtain ⟨v, o, ho, _⟩ := cells y c e
    exact Heap.lt_size ho
  have stkNo : ∀ b, b ≠ X.env.locals -> b ∉ X.fs -> b ∉ frs X.stack := fun b n1 n2 z => by
    rcases List.mem_cons.mp (I2.stkSub b z) with r | r
    · exact n1 r
    · exact n2 r
  obtain ⟨W, ⟨m0, w0⟩, turn⟩ := q2 s2.heap.objs.size nD
  have ok : (cxComp X N scope cl G2.objs.size s2 H2 fp pins).Ok := by
    refine ⟨I2.ok.mod, hkind, I2.ok.glob, I2.ok.blt, (by show s2.heap.objs.size <= G2.objs.size; rw [hC]; exact Nat.le_succ _), fun x y c a b => I2.ok.inj x y c (hsub x c a) (hsub y c b), fun x hx => ?_, fun x c a => (nomatch a), I2.ok.hd, I2.ok.frames, .inl rfl, fun b hb => ⟨(below b (fpl b hb)).1, fun x c e => ?_⟩, I2.bs, Nat.le_trans I2.ok.bsz I2.sz, fun b o e hb => ?_, fun b hb => stkNo b (f2 b hb).2.1 (f2 b hb).2.2.1, I2.stack, I2.stkFree⟩
    · have hx' : scope.names.lookup x = some .free := by
        rcases hx with z | z
        · exact relabel_lookup hcell (.inl rfl) z
        · exact relabel_lookup hcell (.inr rfl) z
      exact hhas _ (hfl x hx') rfl
    · exact (f2 b hb).2.2.2.2.1 x c (hsub x c e)
    · rcases (f2 b hb).2.2.2.1 with z | z
      · exact I2.ok.noex b o e z
      · exact absurd (Nat.lt_of_lt_of_le (Heap.lt_size e) (Nat.le_trans I2.ok.bsz z)) (Nat.lt_irrefl _)
  have inv0 : Inv (cxComp X N scope cl G2.objs.size s2 H2 fp pins) [] (σ0 σ) (upd H2 s2.heap.objs.size (.lst [])) { s2 with heap := h₁, toks := s2.toks + ([] : List (Str × Value)).length } := by
    refine ⟨ok, rfl, I2.bare, Un.laid old (Nat.le_refl _) nD, ⟨_, hns₁, fun i y v e1 e2 e3 => ?_⟩, fun y c e => ?_, ?_, fun y c e => ?_, fun p hp => ?_, ?_, hF.len σ⟩
    · obtain ⟨hfr, j, hj, hv⟩ := hF.at_ σ i y v e1 e2
      have hk := hvis _ (hfl y hfr) rfl
      obtain ⟨m, hn, hl⟩ := I2.loc
      obtain ⟨u, r, l⟩ := hl j y v hj hv (.inr (hk.elim .inl .inr))
      refine ⟨u, r, .inr ⟨relabel_free hfr, ?_⟩⟩
      rcases l with ⟨k1, _⟩ | ⟨_, c, hc, hcell⟩
      · rcases hk with z | z
        · rw [k1] at z; cases z
        · rw [k1] at z; cases z
      · obtain ⟨c', hc'⟩ := hhas _ (hfl y hfr) rfl
        have : c' = c := Option.some.inj ((hsub _ _ hc').symm.trans hc)
        subst this
        refine ⟨c', hc', ?_⟩
        obtain ⟨o, ho, hd⟩ := hcell
        exact ⟨o, old _ _ ho, hd⟩
    · obtain ⟨v, o, ho, hd⟩ := cells y c e
      exact ⟨v, o, old _ _ ho, hd⟩
    · show upd H2 s2.heap.objs.size (.lst []) G2.objs.size = none
      rw [upd_ne (Ne.symm hDC)]; exact nC
    · show upd H2 s2.heap.objs.size (.lst []) c = none
      rw [upd_ne (below c (cellLt y c e)).2]; exact I2.freeC y c (hsub y c e)
    · have hp' : p ∈ X.pn ++ pins := by simpa [cxComp] using hp
      obtain ⟨e, n, ne, nf, d⟩ := I2.pin p hp'
      refine ⟨old _ _ e, ?_, (below _ (Heap.lt_size e)).1, stkNo _ ne nf, d⟩
      rw [upd_ne (below _ (Heap.lt_size e)).2]; exact n
    · exact I2.hok.laid old (Nat.le_refl _) ⟨Nat.zero_le _, [], 0, .nil, hD⟩
  have tn0 : tn 0 h₁ := T.keep 0 _ _ st2 fun b _ o e => old b o e
  have stat : ∀ {H' : Hp}, (∀ b ∈ fp, H' b = none) -> ∀ b ∈ fp, FpOk (cxComp X N scope cl G2.objs.size s2 H2 fp pins) [] H' b := fun hn b hb =>
    ⟨hn b hb, (below b (fpl b hb)).1, stkNo b (f2 b hb).2.1 (f2 b hb).2.2.1, .inl hb, fun x c e => (f2 b hb).2.2.2.2.1 x c (hsub x c e), fun p hp => (f2 b hb).2.2.2.2.2 p (by simpa [cxComp] using hp)⟩
  have loop : codeAny (model X.prog X.w) X.A (.compLoop (.ListComp elt [⟨tg, iter, ifs, 0⟩] scope pos) 0 (.ref it) (.ref s2.heap.objs.size) (compEnvC scope cl G2.objs.size X.env))
      (compPost (model X.prog X.w) X.A X.xe none (EP X pins σ Q) (.ref s2.heap.objs.size) G2.objs.size) { s2 with heap := h₁, toks := s2.toks + ([] : List (Str × Value)).length } := by
    refine compLoop_gen (fun n s' => ∃ i σ' H', Inv (cxComp X N scope cl G2.objs.size s2 H2 fp pins) [] σ' H' s' /\ tn i s'.heap /\ (∀ b ∈ fp, H' b = none) /\ W i n σ' H') ?_ m0
      ⟨0, σ0 σ, _, inv0, tn0, fun b hb => by rw [upd_ne (below b (fpl b hb)).2]; exact (f2 b hb).1, w0⟩
    rintro n s3 ⟨i, σ3, H3, I3, st3, fr3, w3⟩
    have no : ∀ {α : Type} {t : Sem α} {Q' : α -> Shared -> Prop} {E' : Value -> Shared -> Prop} {s' : Shared}, wpAny (model X.prog X.w) X.A t Q' (fun _ _ => False) s' -> wpAny (model X.prog X.w) X.A t Q' E' s' := fun h => wpAny_mono h (fun _ _ z => z) fun _ _ z => False.elim z
    rcases turn i n σ3 H3 w3 with ⟨stop, qn⟩ | ⟨go, step⟩
    · refine no (thn (T.done (cxComp X N scope cl G2.objs.size s2 H2 fp pins) rfl rfl rfl hc i [] s3 σ3 H3 _ I3 (stat fr3) st3 stop) fun r s4 ⟨hr, I4⟩ => ?_)
      subst hr
      obtain ⟨m, hn, _⟩ := I4.loc
      refine ⟨m, hn, fun h' hs' => ?_⟩
      have u : Un (frs X.stack) fp H2 H3 s2.heap h' := by
        have b0 : Un (frs X.stack) fp H2 H3 s2.heap s4.heap := I4.base
        have neC : ∀ b o, s2.heap.get? b = some o -> b ≠ G2.objs.size := fun b o e => (below b (Heap.lt_size e)).1
        exact ⟨fun b o e n hb hx => (hs'.2 b (neC b o e)).trans (b0.keep b o e n hb hx), fun b o e n hb hx => by
          obtain ⟨sl, z⟩ := b0.slot b o e n hb hx
          exact ⟨sl, (hs'.2 b (neC b o e)).trans z⟩, b0.free, fun b o e hx => by
          obtain ⟨o', z⟩ := b0.there b o e hx
          exact ⟨o', (hs'.2 b (neC b o e)).trans z⟩, b0.tups, b0.frzs, b0.tbls⟩
      have hfreeC : H3 G2.objs.size = none := I4.free
      have hk : HOk X.prog X.w H3 h' := fun b ob e => by
        refine (I4.hok b ob e).stay (fun c w' hc q => (hs'.2 c ?_).trans q) (fun _ q => q) fun _ _ q => q
        rintro rfl
        rcases hc with z | z
        · rw [← z, hfreeC] at e; cases e
        · rw [hfreeC] at z; cases z
      have hos : s4.os = s2.os := I4.os
      have J4 : Inv X pins σ H3 { s4 with heap := h' } := I2.call' (s' := { s4 with heap := h' }) (ch := fp) hos u hk I4.bare fun b hb => ⟨(f2 b hb).2.2.2.1, (f2 b hb).2.1, (f2 b hb).2.2.2.2.1, (f2 b hb).2.2.2.2.2⟩
      exact ⟨.ref s2.heap.objs.size, H3, J4, rfl, qn⟩
    · refine no (thn (T.item (cxComp X N scope cl G2.objs.size s2 H2 fp pins) rfl rfl rfl hc i [] s3 σ3 H3 _ I3 (stat fr3) st3 go) fun r s4 ⟨u, hr, h4⟩ => ?_)
      subst hr
      refine no (thn h4 fun _ s5 ⟨x, H5, I5, r5, y5, st5, fr5⟩ => ?_)
      have I5' := I5.pinned (stat fr5) (T.obj _ _ st5)
      have again : ∀ {s7 : Shared} {σ7 : St} {H7 : Hp} {m' : Nat}, Inv (cxComp X N scope cl G2.objs.size s2 H2 fp pins) ([] ++ pinsAt fp s5.heap) σ7 H7 s7 -> m' < n -> W (i + 1) m' σ7 H7 -> ∃ m, m < n /\ ∃ i σ' H', Inv (cxComp X N scope cl G2.objs.size s2 H2 fp pins) [] σ' H' s7 /\ tn i s7.heap /\ (∀ b ∈ fp, H' b = none) /\ W i m σ' H' := fun {s7 σ7 H7 m'} I7 hm w7 => by
        refine ⟨m', hm, i + 1, σ7, H7, I7.unpinned, T.keep _ _ _ st5 fun b hb o e => (I7.pin (b, o) (List.mem_append_right _ (List.mem_append_right _ (mem_pinsAt hb e)))).1, fun b hb => ?_, w7⟩
        obtain ⟨o, e, d⟩ := T.obj _ _ st5 b hb
        exact (I7.pin (b, o) (List.mem_append_right _ (List.mem_append_right _ (mem_pinsAt hb e)))).2.1
      refine no (thn (hg cl G2.objs.size s2 H2 fp pins _ s5 σ3 H5 x u _ I5' r5 (step x H5 y5)) fun _ s6 ⟨σ6, H6, I6, q6⟩ => ?_)
      refine no (thn (ht cl G2.objs.size s2 H2 fp pins _ s6 σ6 H6 _ I6 q6) fun b s7 ⟨H7, I7, q7⟩ => ?_)
      cases b with
      | false =>
        rw [if_neg (by decide)] at q7
        obtain ⟨m', hm, w7⟩ := q7
        exact again I7 hm w7
      | true =>
        rw [if_pos rfl] at q7
        refine no (thn (he cl G2.objs.size s2 H2 fp pins _ s7 σ6 H7 _ I7 q7) fun yv s8 ⟨y, H8, I8, r8, ys, hys, hz, m', hm, w8⟩ => ?_)
        refine no (thn (mt_append (X := cxComp X N scope cl G2.objs.size s2 H2 fp pins) _ s8 σ6 H8 (.ref s2.heap.objs.size) [y] _ [yv] (fun _ H9 => H9 = upd H8 s2.heap.objs.size (.lst (ys ++ [y]))) I8 rfl (.cons r8 .nil) ⟨_, ys, y, rfl, rfl, hys, hz, rfl⟩) fun _ s9 ⟨_, H9, I9, _, q9⟩ => ?_)
        subst q9
        exact again I9 hm w8
  exact codeAny_compStart_list loop (T.self X.A 0 _ _ _ tn0 loop)
end L2
set_option Elab.async false
set_option linter.all false
set_option maxRecDepth 100000
set_option maxHeartbeats 4000000
namespace L2
open PySem PySem.Spec PyProof.Rows
section
variable {X : Cx}
theorem op_fdivB : OpR X (binaryOp .FloorDiv) (rI (fun _ j => j ≠ 0 /\ j.natAbs.log2 < 9000) fun i j => .int (i.fdiv j)) := opI fun _ _ _ _ _ _ _ hc q => floordiv_int hc.1 q (.inl (PyProof.noPylong_of_log2 hc.2))
end
structure FunD (K : PySem.W.Frag) (x qual : Str) (st : Stmt) (dV : Value) (f : Addr) (fd : FuncData) : Prop where
  ex : ∃ (oc : Value) (od : Option Addr) (kV doc pm : Value) (an : Option Addr) (cdv ct : Value) (osl : Array (Option Value)),
    fd = PySem.W.fnOf x qual (defArgs st) (defBody st) (defScope st) dV kV doc pm an cdv ct /\ K.lookup f = some ⟨oc, od, .func fd, osl⟩ /\ PySem.W.codeIn K cdv qual = true
  kp : PySem.W.keepIn K (.ref f) = true
theorem FunD.okX {P : Program} {w : World} {K : PySem.W.Frag} {mg : Str -> Option Value} {base : Heap} {x qual : Str} {st : Stmt} {dV : Value} {f : Addr} {fd : FuncData} {N ps : List Str} {k : Nat} {sp : Sp} (F : FunD K x qual st dV f fd) (S : FnScope N ps (defScope st)) (len : ∀ vs H Q E, sp vs H Q E -> vs.length = ps.length)
    (hbody : ∀ (cdv : Value) (A : Around) (outer : List Env) (s : Shared) (H : Hp) (vs : List V) (Q : VK) (E : XK), Room k (A.deeper (envOfC qual (defScope st) s.heap.objs.size f cdv)) -> sp vs H Q E ->
      ∃ t, PSs (cxOf (CXF P w) P w K mg base N qual (defScope st) f cdv A outer s H E) (defBody st) t /\ t { nx := fun _ H' => Q .non H', rt := Q } (start N vs) H) : FnOk P w K mg base (CXF P w) (k + 1) f fd ps sp := by
  obtain ⟨oc, od, kV, doc, pm, an, cdv, ct, osl, rfl, lk, hcd⟩ := F.ex
  exact fn_of lk hcd S len fun A outer s H vs Q E hr hsp => hbody cdv A outer s H vs Q E hr hsp
theorem funD_mk {K : PySem.W.Frag} {x qual : Str} {st : Stmt} {dV : Value} {f : Addr} {oc : Value} {od an : Option Addr} {osl : Array (Option Value)} {kV doc pm cdv ct : Value} (l : K.lookup f = some ⟨oc, od, .func (PySem.W.fnOf x qual (defArgs st) (defBody st) (defScope st) dV kV doc pm an cdv ct), osl⟩)
    (c : PySem.W.codeIn K cdv qual = true) (k : PySem.W.keepIn K (.ref f) = true) : FunD K x qual st dV f (PySem.W.fnOf x qual (defArgs st) (defBody st) (defScope st) dV kV doc pm an cdv ct) := ⟨⟨oc, od, kV, doc, pm, an, cdv, ct, osl, rfl, l, c⟩, k⟩
theorem boolsAre_of : ∀ {bs : List Bool} {us : List Value}, Vals (bs.map V.bl) us -> LSm.BoolsAre us bs
  | [], _, .nil => .nil
  | b :: bs, _ :: us, .cons r t => by
    cases (show _ = Value.bool b from r)
    exact .cons b (boolsAre_of t)
theorem call_all {X : Cx} (hc : X.calm = true) : CallR X (.builtin "all") (fun xs H Q => ∃ (l : Addr) (bs : List Bool), xs = [.ref l] /\ SqL X.K H l (bs.map V.bl) /\ Q (.bl (bs.all id)) H) := by
  intro pins s σ H xs us Q I r h
  obtain ⟨l, bs, rfl, hq, q⟩ := h
  obtain ⟨u, rfl, rx⟩ := r.one
  cases (show u = Value.ref l from rx)
  obtain ⟨its, rv, pl, hz⟩ := I.list hq
  have hl := pl.isList
  have hb := boolsAre_of rv
  have hlt : l < s.heap.objs.size := by obtain ⟨_, e, _⟩ := hl; exact Heap.lt_size e
  refine call_all_walk (wpAny_pyIter_list hl ?_)
  refine ⟨s.heap.objs.size, [s.heap.objs.size, l], [s.heap.objs.size], its.toArray.size, _, _, fun i => (bs[i]?).getD true, rfl, Walks.list (A := X.A.in1) (I.ok.hd hc) _ l (Nat.ne_of_lt hlt) its.toArray,
    ⟨⟨_, Heap.get?_push_size _ rfl, rfl, rfl⟩, hl.push _⟩, fun i v s' Q' E' hP hQ => ?_, fun h' tk hk => ?_⟩
  · obtain ⟨b, e, rfl⟩ := hb.get i v (by simpa using hP)
    simp only [e, Option.getD_some] at hQ
    exact wpAny_truthy_bool hQ
  · have e : ((List.range its.toArray.size).all fun i => (bs[i]?).getD true) = bs.all id := by
      rw [List.size_toArray, hb.length]; exact LSm.range_all bs
    rw [e]
    exact ⟨.bl _, H, I.kept (LSm.kept_iter hk), rfl, q⟩
def eqVs : List V -> List V -> Bool
  | [], [] => true
  | x :: xs, y :: ys => eqV x y && eqVs xs ys
  | _, _ => false
theorem eqVs_range {xs ys : List V} : ((List.range (min xs.length ys.length)).all (fun j => eqV (xs.getD j .non) (ys.getD j .non)) && xs.length == ys.length) = eqVs xs ys := by
  induction xs generalizing ys with
  | nil =>
    cases ys with
    | nil => rfl
    | cons y ys => simp [eqVs]
  | cons x xs ih =>
    cases ys with
    | nil => simp [eqVs]
    | cons y ys =>
      have h := @ih ys
      rw [eqVs, ← h, List.length_cons, List.length_cons, Nat.succ_min_succ, List.range_succ_eq_map, List.all_cons, List.all_map]
      have e1 : (xs.length + 1 == ys.length + 1) = (xs.length == ys.length) := by simp
      rw [e1]
      have e2 : (List.range (min xs.length ys.length)).all ((fun j => eqV ((x :: xs).getD j .non) ((y :: ys).getD j .non)) ∘ Nat.succ) = (List.range (min xs.length ys.length)).all (fun j => eqV (xs.getD j .non) (ys.getD j .non)) := rfl
      rw [e2, Bool.and_assoc]
      rfl
theorem op_eqTF {X : Cx} (hu : X.A.units < cLine) : OpR X (compareOp .Eq) (fun x y H Q => ∃ p q xs ys, x = .ref p /\ y = .ref q /\ SqT X.K H p xs /\ SqT X.K H q ys /\ xs.all flatV = true /\ ys.all flatV = true /\ Q (.bl (eqVs xs ys)) H) := by
  intro pins s σ H x y v u Q I rx ry h
  obtain ⟨p, q, xs, ys, rfl, rfl, hx, hy, fx, fy, hq⟩ := h
  cases rx
  cases ry
  obtain ⟨its, r, pl, hz⟩ := I.tuple hx
  obtain ⟨its2, r2, pl2, hz2⟩ := I.tuple hy
  refine SeqAt.eq_tupleAt (e := fun j => eqV (xs.getD j .non) (ys.getD j .non)) (show s.heap.IsTuple p its.toArray from pl) (show s.heap.IsTuple q its2.toArray from pl2) hu (fun j h1 h2 => ?_) ?_
  · have j1 : j < xs.length := by rw [r.length]; simpa using h1
    have j2 : j < ys.length := by rw [r2.length]; simpa using h2
    obtain ⟨u1, e1, q1⟩ := r.get (i := j) (x := xs[j]) (by simp [j1])
    obtain ⟨u2, e2, q2⟩ := r2.get (i := j) (x := ys[j]) (by simp [j2])
    have z1 : its.toArray[j] = u1 := by
      have := e1
      rw [List.getElem?_eq_getElem (by simpa using h1)] at this
      simpa using Option.some.inj this
    have z2 : its2.toArray[j] = u2 := by
      have := e2
      rw [List.getElem?_eq_getElem (by simpa using h2)] at this
      simpa using Option.some.inj this
    have g1 : xs.getD j .non = xs[j] := by simp [List.getD, j1]
    have g2 : ys.getD j .non = ys[j] := by simp [List.getD, j2]
    rw [z1, z2, g1, g2]
    exact eqAt_V q1 q2 (List.all_eq_true.mp fx _ (List.getElem_mem j1)) (List.all_eq_true.mp fy _ (List.getElem_mem j2))
  · rw [List.size_toArray, List.size_toArray, ← r.length, ← r2.length, eqVs_range]
    exact ⟨.bl _, H, I, rfl, hq⟩
theorem bt_isinstance : bootBuiltins "isinstance" = some (.builtin "isinstance") := by decide +kernel
theorem bt_len : bootBuiltins "len" = some (.builtin "len") := by decide +kernel
theorem bt_abs : bootBuiltins "abs" = some (.builtin "abs") := by decide +kernel
theorem bt_all : bootBuiltins "all" = some (.builtin "all") := by decide +kernel
theorem bt_sorted : bootBuiltins "sorted" = some (.builtin "sorted") := by decide +kernel
theorem bt_int : bootBuiltins "int" = some (.type "int") := by decide +kernel
theorem bt_bool : bootBuiltins "bool" = some (.type "bool") := by decide +kernel
theorem bt_tuple : bootBuiltins "tuple" = some (.type "tuple") := by decide +kernel
theorem bt_dict : bootBuiltins "dict" = some (.type "dict") := by decide +kernel
theorem bt_enumerate : bootBuiltins "enumerate" = some (.type "enumerate") := by decide +kernel
theorem iteY {c : Bool} {A B : Prop} (h : c = true) (a : A) : if c = true then A else B := by rw [if_pos h]; exact a
theorem iteN {c : Bool} {A B : Prop} (h : c = false) (b : B) : if c = true then A else B := by rw [if_neg (by rw [h]; decide)]; exact b
theorem dI {a b : Int} : decide (V.int a = V.int b) = decide (a = b) := by
  by_cases g : a = b
  · rw [g, decide_eq_true rfl, decide_eq_true rfl]
  · rw [decide_eq_false g, decide_eq_false (fun z => g (by injection z))]
theorem eqY {a b : Int} (h : a = b) : decide (V.int a = V.int b) = true := by rw [dI]; exact decide_eq_true h
theorem eqN {a b : Int} (h : ¬ a = b) : decide (V.int a = V.int b) = false := by rw [dI]; exact decide_eq_false h
theorem neY {a b : Int} (h : ¬ a = b) : (!decide (V.int a = V.int b)) = true := by rw [eqN h]; rfl
theorem neN {a b : Int} (h : a = b) : (!decide (V.int a = V.int b)) = false := by rw [eqY h]; rfl
end L2
set_option Elab.async false
set_option linter.all false
set_option maxRecDepth 100000
set_option maxHeartbeats 4000000
namespace L2
open PySem PySem.Spec PyProof.Rows
section
variable {X : Cx} {e v v₁ v₂ : Expr} {te : TE} {pos : Pos} {es : List Expr}
def rSlS : V -> Option Int -> Option Int -> Hp -> VK -> Prop := fun x lo hi H Q => ∃ z : Str, x = .str z /\ z.length <= sizeLine /\ Q (.str (Txt.slice z lo hi)) H
theorem isPart_val {v : Value} {o : Option Int} (h : IsPart v o) : ∃ p : Option (Int × Tok), v = partValue p /\ p.map (·.1) = o := by
  cases h with
  | none => exact ⟨none, rfl, rfl⟩
  | int i t => exact ⟨some (i, t), rfl, rfl⟩
theorem sl_str : SlR X rSlS := by
  intro pins s σ H x v vl vu lo hi sl Q I rx hs pl pu h
  obtain ⟨z, rfl, hz, q⟩ := h
  obtain ⟨t, rfl⟩ := rx
  obtain ⟨l, rfl, rfl⟩ := isPart_val pl
  obtain ⟨u, rfl, rfl⟩ := isPart_val pu
  refine ⟨"str", _, slot_str_getitem.lookup, typeIs_str _ _ _, wpAny_getItem_str_slice (l := l) (u := u) (st := none) hs rfl (post_val_or_str ⟨Nat.le_trans (Txt.slice_le z _ _) hz, fun t' k => ?_⟩)⟩
  exact ⟨.str _, H, I.tok _, ⟨_, rfl⟩, q⟩
end
end L2
set_option Elab.async false
set_option linter.all false
set_option maxRecDepth 100000
set_option maxHeartbeats 4000000
namespace L2
open PySem PySem.Spec PyProof.Rows
section
variable {P : Program} {w : World} {K : PySem.W.Frag} {mg : Str -> Option Value} {base : Heap}
end
section
variable {X : Cx} {k : Nat} {f : Addr} {fd : FuncData} {ps : List Str} {sp : Sp} {dvs : List V} {ds : List Value} {x : Str} {p pos : Pos} {e : Expr} {es : List Expr} {t : TA}
end
theorem FnOk.to0 {P : Program} {w : World} {K : PySem.W.Frag} {mg : Str -> Option Value} {base : Heap} {k : Nat} {f : Addr} {fd : FuncData} {ps : List Str} {sp : Sp} (F : FnOk P w K mg base (CXF P w) k f fd ps sp) : FnOk P w K mg base CX0 k f fd ps (fun vs H Q _ => sp vs H Q E0) :=
  ⟨fun vs H Q E h => F.len vs H Q E0 h, fun A outer s H args us vs Q E hr he hb hv hs => codeAny_mono (F.run A outer s H args us vs Q E0 hr he hb hv hs) fun r s' q => by
    cases r with
    | error e => obtain ⟨_, _, _, _, _, _, _, _, z⟩ := q; exact False.elim z
    | ok fl => cases fl <;> exact q⟩
def Ite (K : PySem.W.Frag) (a : Addr) : It :=
  ⟨fun i H => ∃ xs x, SqL K H a xs /\ xs[i]? = some x, fun i H v H' => ∃ p x, H p = none /\ v = .ref p /\ H' = upd H p (.tup [.int i, x]) /\ ∀ xs, SqL K H a xs -> xs[i]? = some x, fun i H => ∃ xs, SqL K H a xs /\ xs.length <= i⟩
theorem turn_enum {P : Program} {w : World} {K : PySem.W.Frag} {elts : List Expr} {x1 : Nat} {pos : Pos} (a it e : Addr) (hne : e ≠ it) : Turn P w K (.Tuple elts x1 pos) (Ite K a) [e, it] e (fun i h => (∃ old, IsEnum h e it i old) /\ h.IsListIter it a i) where
  mem := by simp
  obj := fun i h st b hb => by
    obtain ⟨⟨old, he⟩, hit⟩ := st
    have hb' : b = e ∨ b = it := by simpa using hb
    rcases hb' with rfl | rfl
    · exact ⟨_, he, fun v z => nomatch z⟩
    · obtain ⟨o, e, c, d⟩ := hit
      exact ⟨o, e, fun v z => by rw [d] at z; cases z⟩
  keep := fun i h h' st k => by
    obtain ⟨⟨old, he⟩, o, ho, r⟩ := st
    exact ⟨⟨old, k e (by simp) _ he⟩, o, k it (by simp) o ho, r⟩
  item := by
    intro X hP hw hK hc i pins s σ H E I hf st hg
    subst hP hw hK
    obtain ⟨⟨old, he⟩, hit⟩ := st
    obtain ⟨xs, x, hq, hx⟩ := hg
    obtain ⟨its, rv, p, hz⟩ := I.list hq
    obtain ⟨u, hu, ru⟩ := rv.get hx
    have fe := hf e (by simp)
    have fi := hf it (by simp)
    refine wpAny_pyNext_enum_item he hit p.isList (x := u) (by simpa using hu) hne fun h' ho' hit' ht' hsz' hk' => ?_
    refine ⟨_, rfl, wpAny_letOwnedTupleGo_enum (s := { s with heap := h', toks := s.toks + 1 }) ho' fun h2 he2 sb2 => ?_⟩
    have hel : e < s.heap.objs.size := Heap.lt_size he
    have nn : H s.heap.objs.size = none := I.hok.fresh (Nat.le_refl _)
    have keep : ∀ b o, b ≠ e -> b ≠ it -> s.heap.get? b = some o -> h2.get? b = some o := fun b o n1 n2 q => (sb2.2 b n1).trans (hk' b o n1 n2 q)
    have nt : ∀ b u, H b = some u -> b ≠ e /\ b ≠ it := fun b u q => ⟨(fun z => by rw [z, fe.1] at q; cases q), (fun z => by rw [z, fi.1] at q; cases q)⟩
    have mem2 : ∀ b, b ∉ [e, it] -> b ≠ e /\ b ≠ it := fun b hb => by simpa using hb
    have I1 : Inv X pins σ H { s with heap := h2, toks := s.toks + 1 } := by
      refine I.step (g' := s.gens) (d' := s.drawn) (ch := [e, it]) (fun b hb => ?_) (fun b o _ _ hc q _ => keep b o (mem2 b hc).1 (mem2 b hc).2 q) (fun b o _ _ hc q _ => ⟨o.slots, keep b o (mem2 b hc).1 (mem2 b hc).2 q⟩) (fun _ _ _ _ n => n)
        (fun b o hc q => ⟨o, keep b o (mem2 b hc).1 (mem2 b hc).2 q⟩) (fun _ _ q => q) (fun _ _ _ q => q) (fun b ps q => ⟨#[], by rw [q]; simp⟩) (fun m hm => ?_) (fun b u q => ?_) I.bare
      · have hb' : b = e ∨ b = it := by simpa using hb
        rcases hb' with rfl | rfl
        · exact ⟨fe.2.2.2.1, fe.2.1, fe.2.2.2.2.1, fe.2.2.2.2.2⟩
        · exact ⟨fi.2.2.2.1, fi.2.1, fi.2.2.2.2.1, fi.2.2.2.2.2⟩
      · obtain ⟨o, es, ep, ho, r⟩ := hm
        exact ⟨o, es, ep, keep _ o (Ne.symm fe.2.1) (Ne.symm fi.2.1) ho, r⟩
      · refine (I.hok b u q).stay (fun c v hc q' => keep c v ?_ ?_ q') (fun _ q' => q') fun _ _ q' => q'
        · rcases hc with z | z
          · rw [z]; exact (nt b u q).1
          · exact (nt c _ z).1
        · rcases hc with z | z
          · rw [z]; exact (nt b u q).2
          · exact (nt c _ z).2
    have ge := Nat.le_refl s.heap.objs.size
    have ht2 : h2.get? s.heap.objs.size = some { cls := .type "tuple", data := .seq #[.int i s.toks, u] } := (sb2.2 _ (Nat.ne_of_gt hel)).trans ht'
    have I2 : Inv X pins σ (upd H s.heap.objs.size (.tup [.int i, x])) { s with heap := h2, toks := s.toks + 1 } := by
      refine I1.adopt nn ?_ ?_ (fun y c q z => ?_) (fun p hp z => ?_) ⟨(by show 2 <= sizeLine; decide), [.int i s.toks, u], .cons ⟨_, rfl⟩ (.cons ru .nil), ?_⟩
      · cases z : X.s₀.heap.get? s.heap.objs.size with
        | none => rfl
        | some o => exact absurd (Nat.lt_of_lt_of_le (Heap.lt_size z) I.sz) (Nat.lt_irrefl _)
      · exact Nat.ne_of_gt I.lt
      · obtain ⟨v, q'⟩ := I.cell y c q
        exact absurd q'.lt (by rw [z]; exact Nat.lt_irrefl _)
      · exact absurd (Heap.lt_size (I.pin p hp).1) (by rw [z]; exact Nat.lt_irrefl _)
      · exact ⟨_, ht2, ⟨rfl, rfl⟩, 0, rfl⟩
    refine ⟨.ref s.heap.objs.size, _, I2, rfl, ⟨s.heap.objs.size, x, nn, rfl, rfl, fun ys hy => by rw [I.list_inj hy hq]; exact hx⟩, ⟨⟨_, he2⟩, hit'.extBut sb2.extBut (Ne.symm hne)⟩, fun b hb => ?_⟩
    have hlt : b < s.heap.objs.size := by
      have hb' : b = e ∨ b = it := by simpa using hb
      rcases hb' with rfl | rfl
      · exact hel
      · obtain ⟨o, e, _⟩ := hit; exact Heap.lt_size e
    rw [upd_ne (Nat.ne_of_lt hlt)]
    exact (hf b hb).1
  done := by
    intro X hP hw hK hc i pins s σ H E I hf st hg
    subst hP hw hK
    obtain ⟨⟨old, he⟩, hit⟩ := st
    obtain ⟨xs, hq, hx⟩ := hg
    obtain ⟨its, rv, p, hz⟩ := I.list hq
    obtain ⟨f0, f1, f2, f3, f4, f5⟩ := hf it (by simp)
    have hl := rv.length
    exact wpAny_pyNext_enum_end (I.ok.hd hc) he hit p.isList (by simp; omega) fun h' eb => ⟨rfl, I.turned (t' := s.toks) (fun b o hb e => eb b o hb e) f0 f1 f3 f4 f5⟩
  self := fun _ _ _ _ _ st h => let ⟨⟨_, he⟩, _⟩ := st; wpAny_pyIter_enum he h
def iEnum (K : PySem.W.Frag) (ta : TA) : TI := fun σ H R => ta σ H fun vs H1 => ∃ a, vs = [.ref a] /\ (∃ xs, SqL K H1 a xs) /\ R (Ite K a) H1
theorem pi_enum {X : Cx} {elts : List Expr} {x1 : Nat} {tpos : Pos} {a : Expr} {ta : TA} {p pos : Pos} (hg : Gl X "enumerate") (hm : X.mg "enumerate" = none) (ha : PA X [a] ta) (hs : starEach [a] X.env = [(false, eval a X.env)] := by rfl) :
    PI X (.Tuple elts x1 tpos) (.Call (.Name "enumerate" p) [a] [] pos) (iEnum X.K ta) := by
  intro pins s σ H R I h
  refine Call_ (ld_blt I hg hm bt_enumerate (PyProof.Rows.callWith_type1 (thn (ha pos pins s σ H _ I h) fun us s1 ⟨vs, H1, I1, r1, q1⟩ => ?_) hs rfl))
  obtain ⟨l, e, ⟨xs, hq⟩, q⟩ := q1
  subst e
  obtain ⟨u, rfl, rx⟩ := r1.one
  cases (show u = Value.ref l from rx)
  obtain ⟨its, rv, pl, hz⟩ := I1.list hq
  refine call_enumerate_list pl.isList fun h' he hit hsz hk => ?_
  refine wpAny_pyIter_enum he ?_
  have I2 : Inv X pins σ H1 { s1 with heap := h' } := I1.kept (t' := s1.toks) hk
  refine ⟨s1.heap.objs.size + 1, [s1.heap.objs.size + 1, s1.heap.objs.size], _, _, H1, rfl, I2, turn_enum l _ _ (Nat.succ_ne_self _), ⟨⟨_, he⟩, hit⟩, fun b hb => ?_, q⟩
  have hb' : b = s1.heap.objs.size + 1 ∨ b = s1.heap.objs.size := by simpa using hb
  have ge : s1.heap.objs.size <= b := by
    rcases hb' with rfl | rfl
    · exact Nat.le_succ _
    · exact Nat.le_refl _
  have F := I1.fpOk ge (I1.hok.fresh ge)
  exact F
theorem eqVs_len {xs ys : List V} (h : xs.length = ys.length) : (List.range xs.length).all (fun j => eqV (xs.getD j .non) (ys.getD j .non)) = eqVs xs ys := by
  have e := @eqVs_range xs ys
  rw [← h, Nat.min_self, beq_self_eq_true, Bool.and_true] at e
  exact e
theorem eqVs_ne {xs ys : List V} (h : xs.length ≠ ys.length) : eqVs xs ys = false := by
  have e := @eqVs_range xs ys
  rw [← e]
  have : (xs.length == ys.length) = false := by simpa using h
  rw [this, Bool.and_false]
theorem eqAt_items {X : Cx} {A : Around} {s : Shared} {xs ys : List V} {its its2 : List Value} (r : Vals xs its) (r2 : Vals ys its2) (fx : xs.all flatV = true) (fy : ys.all flatV = true) (j : Nat) (h1 : j < its.toArray.size) (h2 : j < its2.toArray.size) :
    SeqAt.EqAt A s its.toArray[j] its2.toArray[j] (eqV (xs.getD j .non) (ys.getD j .non)) := by
  have j1 : j < xs.length := by rw [r.length]; simpa using h1
  have j2 : j < ys.length := by rw [r2.length]; simpa using h2
  obtain ⟨u1, e1, q1⟩ := r.get (i := j) (x := xs[j]) (by simp [j1])
  obtain ⟨u2, e2, q2⟩ := r2.get (i := j) (x := ys[j]) (by simp [j2])
  have z1 : its.toArray[j] = u1 := by
    have := e1
    rw [List.getElem?_eq_getElem (by simpa using h1)] at this
    simpa using Option.some.inj this
  have z2 : its2.toArray[j] = u2 := by
    have := e2
    rw [List.getElem?_eq_getElem (by simpa using h2)] at this
    simpa using Option.some.inj this
  have g1 : xs.getD j .non = xs[j] := by simp [List.getD, j1]
  have g2 : ys.getD j .non = ys[j] := by simp [List.getD, j2]
  rw [z1, z2, g1, g2]
  exact eqAt_V q1 q2 (List.all_eq_true.mp fx _ (List.getElem_mem j1)) (List.all_eq_true.mp fy _ (List.getElem_mem j2))
def rEqLF (K : PySem.W.Frag) (neg : Bool) : R2 := fun x y H Q => ∃ p q xs ys, x = .ref p /\ y = .ref q /\ SqL K H p xs /\ SqL K H q ys /\ xs.all flatV = true /\ ys.all flatV = true /\ Q (.bl (if neg then !eqVs xs ys else eqVs xs ys)) H
theorem op_eqLF {X : Cx} {K : PySem.W.Frag} (hK : X.K = K) (hu : X.A.units < cLine) : OpR X (compareOp .Eq) (rEqLF K false) := by
  subst hK
  intro pins s σ H x y v u Q I rx ry h
  obtain ⟨p, q, xs, ys, rfl, rfl, hx, hy, fx, fy, hq⟩ := h
  cases rx
  cases ry
  obtain ⟨its, r, pl, hz⟩ := I.list hx
  obtain ⟨its2, r2, pl2, hz2⟩ := I.list hy
  by_cases hl : xs.length = ys.length
  · refine SeqAt.eq_listAt (e := fun j => eqV (xs.getD j .non) (ys.getD j .non)) pl.isList pl2.isList (by rw [List.size_toArray, List.size_toArray, ← r.length, ← r2.length]; exact hl) hu (fun j h1 h2 => eqAt_items (X := X) r r2 fx fy j h1 h2) ?_
    rw [List.size_toArray, ← r.length, eqVs_len hl]
    exact ⟨.bl _, H, I, rfl, hq⟩
  · refine SeqAt.eq_list_lengthsAt pl.isList pl2.isList (by rw [List.size_toArray, List.size_toArray, ← r.length, ← r2.length]; simpa using hl) hu ?_
    rw [eqVs_ne hl] at hq
    exact ⟨.bl _, H, I, rfl, hq⟩
theorem op_neLF {X : Cx} {K : PySem.W.Frag} (hK : X.K = K) (hu : X.A.units < cLine) : OpR X (compareOp .NotEq) (rEqLF K true) := by
  subst hK
  intro pins s σ H x y v u Q I rx ry h
  obtain ⟨p, q, xs, ys, rfl, rfl, hx, hy, fx, fy, hq⟩ := h
  cases rx
  cases ry
  obtain ⟨its, r, pl, hz⟩ := I.list hx
  obtain ⟨its2, r2, pl2, hz2⟩ := I.list hy
  by_cases hl : xs.length = ys.length
  · refine SeqAt.RcNeAt.lists (e := fun j => eqV (xs.getD j .non) (ys.getD j .non)) pl.isList pl2.isList (by rw [List.size_toArray, List.size_toArray, ← r.length, ← r2.length]; exact hl) hu (fun j h1 h2 => eqAt_items (X := X) r r2 fx fy j h1 h2) _ _ _ _ ?_
    rw [List.size_toArray, ← r.length, eqVs_len hl]
    exact ⟨.bl _, H, I, rfl, hq⟩
  · refine SeqAt.RcNeAt.lists_lengths pl.isList pl2.isList (by rw [List.size_toArray, List.size_toArray, ← r.length, ← r2.length]; simpa using hl) hu _ _ _ _ ?_
    rw [eqVs_ne hl] at hq
    exact ⟨.bl _, H, I, rfl, hq⟩
end L2
set_option Elab.async false
set_option linter.all false
set_option maxRecDepth 100000
set_option maxHeartbeats 4000000
namespace L2
open PySem PySem.Spec PyProof.Rows PySem.W Builtin.Str
def Few (i : Int) : Prop := i.natAbs.log2 < 1048576
theorem few_of {ns : List Int} (h : WData.layableAll [WData.list (ns.map WData.int)] = true) : ∀ i ∈ ns, Few i := by
  intro i hi
  have h1 := layableW_arg h _ (List.mem_singleton.mpr rfl)
  have h2 := layableW_item h1 (WData.int i) (List.mem_map.mpr ⟨i, hi, rfl⟩)
  have h3 := (layableW_iff.mp h2).2.2
  unfold Few
  have e : (WData.int i).weight = if i == 0 then 0 else i.natAbs.log2 + 1 := by simp only [WData.weight]
  rw [e] at h3
  by_cases z : i = 0
  · subst z
    decide
  · have : (i == 0) = false := by simpa using z
    rw [this] at h3
    simp only [Bool.false_eq_true, if_false] at h3
    have e2 : (2 : Nat) ^ 20 = 1048576 := by decide
    omega
theorem walk_ofB {l : PySem.W.OpenLaw} {n k : Nat} {q : Program} {loose : List Str} {XP : (Str -> Option Value) -> Heap -> Prop} {YP : World -> Heap -> Prop} {d : DefRec} {K : Params -> PySem.W.Frag} {CX : World -> CXT} {sp : World -> Sp} {x : Str}
    (hn : l.most = some n) (hn2 : n <= sizeLine) (hdf : d.params.defaults = []) (hr : Room k callerA)
    (hY : ∀ (w : World) (h : Heap), YP w h -> (K w.params).In h)
    (F : ∀ (w : World) (mg : Str -> Option Value) (fa : Addr) (h : Heap), (K w.params).In h -> h.Ns mainGlobals mg -> mg d.name = some (.ref fa) ->
      ∃ fd : FuncData, (∀ (s : Shared) (u : Value), BindsTo s fd ⟨[u], []⟩ [(x, u)]) /\
        ∀ base : Heap, (K w.params).In base -> base.Ns mainGlobals mg -> FnOk l.prog w (K w.params) mg base (CX w) k fa fd [x] (sp w))
    (hsp : ∀ (w : World) (H : Hp) (a : Addr) (ns : List Int), ns.length <= n -> (∀ i ∈ ns, Few i) -> Only H -> SqL (K w.params) H a (ns.map V.int) -> sp w [.ref a] H (fun v _ => v = .bl true) fun _ _ _ => False)
    (hCX : ∀ (w : World) (H : Hp) (s : Shared) (e : Value) (s' : Shared), CX w [] H s (fun _ _ _ => False) e s' -> False) :
    PySem.W.WalkO q loose XP YP l.row.toRowW d [] (fun f vs => PySem.call f vs) := by
  intro w s₀ s₁ mg mb G Y fa o pm cd doc dV kV ho hd hcd hD hmg hg args vals as hpre hlay hrd hwl hlo
  obtain rfl : dV = .none := Dflts.none hD hdf
  obtain rfl : kV = .none := Dflts.noKw hD
  obtain ⟨a, vs, ns, rfl, rfl, hobj, hints, hlen⟩ := Att.script_of hn hpre hwl
  have few := few_of hlay
  have KX := hY w _ Y
  obtain ⟨fd, hb, hF⟩ := F w mg fa _ KX G.T.g hmg
  refine enter_call (codeAny_mono (law_call KX G.T.g G.T.b G.T.builtins G.T.nolimit hg hobj hints (Nat.le_trans hlen hn2) hr hF hb (fun H hO hS => hsp w H a ns hlen few hO hS) fun H e s' => hCX w H s₁ e s') fun r s' hq => ?_)
  obtain ⟨rfl, h2, h3, h4⟩ := hq
  exact ⟨.inl ⟨.bool true, .bool true, [], rfl, fun _ => rfl, .bool true, Att.post_true l _, fun _ => ⟨List.Pairwise.nil, fun _ hm => (nomatch hm)⟩⟩, h2, h3, h4⟩
theorem log_lt {n m : Nat} (h : n < 2 ^ m) (h0 : 0 < m) : n.log2 < m := by
  rcases Nat.eq_zero_or_pos n with e | p
  · subst e
    rw [show Nat.log2 0 = 0 by decide]
    exact h0
  · exact (Nat.log2_lt (Nat.ne_of_gt p)).mpr h
theorem bits_le {i : Int} {m : Nat} (h : i.natAbs < 2 ^ m) (h0 : 0 < m) : Builtin.Int.intBits i <= m := by
  unfold Builtin.Int.intBits
  split
  · exact Nat.zero_le _
  · have := log_lt h h0
    omega
def CMulF (i j : Int) : Prop := ∃ k : Nat, k <= 1048580 /\ i.natAbs < 2 ^ k /\ j.natAbs < 2 ^ k
theorem op_mulF {X : Cx} : OpR X (binaryOp .Mult) (rI CMulF fun i j => .int (i * j)) := opI fun i j _ _ _ _ _ hc q => mul_int q (by
  obtain ⟨k, hk, h1, h2⟩ := hc
  have a := bits_le (m := k + 1) (Nat.lt_of_lt_of_le h1 (Nat.pow_le_pow_right (by decide) (Nat.le_succ k))) (Nat.succ_pos k)
  have b := bits_le (m := k + 1) (Nat.lt_of_lt_of_le h2 (Nat.pow_le_pow_right (by decide) (Nat.le_succ k))) (Nat.succ_pos k)
  unfold IntMulOk
  have z : Builtin.Int.intTooBig (Builtin.Int.intBits i + Builtin.Int.intBits j) = false := by
    unfold Builtin.Int.intTooBig
    refine decide_eq_false ?_
    have e : ((bitsLine : Nat) : Int) = 134217728 := by decide +kernel
    rw [e]
    omega
  rw [z, Bool.and_false]
  exact Bool.false_ne_true)
end L2
set_option Elab.async false
set_option linter.all false
set_option maxRecDepth 100000
set_option maxHeartbeats 4000000
namespace L2
open PySem PySem.Spec PyProof.Rows
theorem noFree {X : Cx} {names : List (Str × NameKind)} (h : names.all (fun y => y.2 != .free) = true) : ∀ y ∈ names, y.2 = .free -> X.env.kindOf y.1 = some .cell ∨ X.env.kindOf y.1 = some .free := fun y hy hf => by
  have := List.all_eq_true.mp h y hy
  rw [hf] at this
  exact absurd this (by decide)
theorem visC {X : Cx} {scope : Scope} (st : Stmt) (h : ∀ y ∈ scope.names, y.2 = .free -> (defScope st).names.lookup y.1 = some .cell) (he : X.env.scope = defScope st := by rfl) : ∀ y ∈ scope.names, y.2 = .free -> X.env.kindOf y.1 = some .cell ∨ X.env.kindOf y.1 = some .free := fun y hy hf => by
  refine .inl ?_
  show X.env.scope.names.lookup y.1 = some .cell
  rw [he]
  exact h y hy hf
theorem frees_of {X : Cx} {scope : Scope} (ts : List Str) (fs : List (Str × Nat)) (N0 : List Str) (h : ∀ p ∈ fs, scope.names.lookup p.1 = some .free /\ N0[p.2]? = some p.1) (hN : X.N = N0 := by rfl) :
    Frees X scope (ts ++ fs.map (·.1)) (fun σ => ts.map (fun _ => none) ++ fs.map fun p => (σ[p.2]?).join) where
  len := fun σ => by simp
  at_ := fun σ i y v e1 e2 => by
    by_cases hi : i < ts.length
    · rw [List.getElem?_append_left (by simpa using hi), List.getElem?_map, List.getElem?_eq_getElem hi] at e2
      cases e2
    · rw [List.getElem?_append_right (by simpa using hi), List.getElem?_map] at e1 e2
      rw [List.length_map] at e2
      cases q : fs[i - ts.length]? with
      | none => rw [q] at e1; cases e1
      | some p =>
        rw [q] at e1 e2
        have e1' : p.1 = y := Option.some.inj e1
        have e2' : (σ[p.2]?).join = some v := Option.some.inj e2
        subst e1'
        obtain ⟨a, b⟩ := h p (List.mem_of_getElem? q)
        refine ⟨a, p.2, by rw [hN]; exact b, ?_⟩
        cases z : σ[p.2]? with
        | none => rw [z] at e2'; cases e2'
        | some o =>
          rw [z] at e2'
          have : o = some v := e2'
          rw [this]
theorem relab_other {env : Env} : ∀ {names : List (Str × NameKind)} {x : Str} {k : NameKind}, k ≠ .free -> names.lookup x = some k ->
    (names.map fun (n, k) => if (k == NameKind.free && env.scope.kind == .function && env.kindOf n == some .cell) then (n, NameKind.cell) else (n, k)).lookup x = some k
  | [], _, _, _, h => by cases h
  | (n, k') :: r, x, k, hk, h => by
    have ih := @relab_other env r x k hk
    show List.lookup x ((if (k' == NameKind.free && env.scope.kind == .function && env.kindOf n == some .cell) = true then (n, NameKind.cell) else (n, k')) :: _) = some k
    rw [List.lookup_cons] at h
    by_cases hx : (x == n) = true
    · rw [hx] at h
      have e : k' = k := Option.some.inj h
      subst e
      rw [if_neg, List.lookup_cons, hx]
      intro c
      simp only [Bool.and_eq_true, beq_iff_eq] at c
      exact hk c.1.1
    · have hx' : (x == n) = false := by simpa using hx
      rw [hx'] at h
      split
      · rw [List.lookup_cons, hx']; exact ih h
      · rw [List.lookup_cons, hx']; exact ih h
section
variable {X : Cx} {N : List Str} {scope : Scope} {cl : List (Str × Addr)} {C : Addr} {s : Shared} {H : Hp} {fp : List Addr} {pins : List (Addr × Obj)} {x : Str}
theorem c_loc (h : scope.names.lookup x = some .local) : (cxComp X N scope cl C s H fp pins).env.scope.names.lookup x = some .local := relab_other (by decide) h
theorem c_vloc (h : scope.names.lookup x = some .local) : Vis (cxComp X N scope cl C s H fp pins).env.scope x := .inl (c_loc h)
theorem c_free (h : scope.names.lookup x = some .free) : Vis (cxComp X N scope cl C s H fp pins).env.scope x := .inr (relabel_free h)
theorem c_gl (h : scope.names.lookup x = some .globalImplicit) : Gl (cxComp X N scope cl C s H fp pins) x := relab_other (by decide) h
end
section
variable {X : Cx} {es : List Expr} {te : TE} {t : TA}
end
end L2
set_option Elab.async false
set_option linter.all false
set_option maxRecDepth 100000
set_option maxHeartbeats 4000000
namespace L2
open PySem PySem.Spec PyProof.Rows
end L2
set_option Elab.async false
set_option linter.all false
set_option maxRecDepth 100000
set_option maxHeartbeats 4000000
namespace L2
open PySem PySem.Spec PyProof.Rows
theorem ps_setc {X : Cx} {i0 : Nat} {xn : Str} {pos' spos : Pos} {elt tg iter : Expr} {ifs : List Expr} {scope : Scope} {pos : Pos} {N : List Str} {σ0 : St -> St} {wi : TI} {g : TG} {ti : TT} {te : TE}
    (hN0 : X.N.Nodup) (hi0 : X.N[i0]? = some xn) (hx0 : X.env.scope.names.lookup xn = some .local) (hc : X.calm = true) (hF : Frees X scope N σ0) (hvis : ∀ y ∈ scope.names, y.2 = .free -> X.env.kindOf y.1 = some .cell ∨ X.env.kindOf y.1 = some .free)
    (hcell : ∀ y ∈ scope.names, y.2 ≠ .cell) (hkind : scope.kind = .function) (hnames : ∀ y ∈ scope.names, y.2 = .local -> scope.names.lookup y.1 = some .local) (hfl : ∀ y, scope.names.lookup y = some .free -> (y, NameKind.free) ∈ scope.names)
    (hi : PI X tg iter wi) (hg : ∀ cl C s H fp pins, PG (cxComp X N scope cl C s H fp pins) tg g) (ht : ∀ cl C s H fp pins, PIf (cxComp X N scope cl C s H fp pins) ifs ti) (he : ∀ cl C s H fp pins, PE (cxComp X N scope cl C s H fp pins) elt te)
    (hs : ∀ x, foldedSetIterable iter X.env x = pure x := by intro _; rfl) (hsw : swapsWith (.ListComp elt [⟨tg, iter, ifs, 0⟩] scope pos) (some (.Name xn pos')) spos.line X.env = pure true := by rfl) : PS X (.Assign [.Name xn pos'] (.ListComp elt [⟨tg, iter, ifs, 0⟩] scope pos) spos) (tAsg (tComp wi σ0 g ti te) (gName i0)) := by
  intro pins s σ H D0 I h
  have h : tComp wi σ0 g ti te σ H (fun x H1 => D0.nx (σ.set i0 (some x)) H1) := h
  rw [exec_Assign_Name_used _ _ _ _ hsw]
  refine wpAny_bind (wpAny_standAt (wpAny_bind ?_))
  show wpAny _ X.A (do let _ ← comprehension (.ListComp elt [⟨tg, iter, ifs, 0⟩] scope pos) scope X.env _ (newList []) false (eval iter X.env) (some (assign (.Name xn pos') X.env))) _ _ s
  obtain ⟨cl, hclos, hsub, hhas⟩ := closureFor_of (scope := scope) (env := X.env) fun y hy hf => I.ok.has y.1 (hvis y hy hf)
  refine wpAny_bind (wpAny_mono (wpAny_comprehension_free (use := some (assign (.Name xn pos') X.env)) (Q := fun _ s' => SP X pins D0 .next s') rfl hs hclos hkind hnames (thn (hi pins s σ H _ I h) fun v s1 h1 => thn h1 fun itv s2 h2 => ?_)) (fun _ s' hq => wpAny_pure (wpAny_pure hq)) fun _ _ e => e)
  obtain ⟨it, fp, tn, J, H2, e, I2, T, st2, f2, q2⟩ := h2
  subst e
  refine wpAny_newObj_type (wpAny_newFunctionEnv hcell (by intro y hy; simp at hy) (fun h₁ hns₁ hsb₁ => ?_) hkind)
  dsimp only at hns₁ hsb₁ ⊢
  generalize hH2 : s2.heap.push { cls := .type "list", dict := none, data := .seq ([] : List Value).toArray } = G2 at hns₁ hsb₁ ⊢
  have hC : G2.objs.size = s2.heap.objs.size + 1 := by rw [← hH2, Heap.size_push]
  have hDC : s2.heap.objs.size ≠ G2.objs.size := by rw [hC]; exact Nat.ne_of_lt (Nat.lt_succ_self _)
  have below : ∀ b, b < s2.heap.objs.size -> b ≠ G2.objs.size /\ b ≠ s2.heap.objs.size := fun b hb => ⟨by rw [hC]; exact Nat.ne_of_lt (Nat.lt_succ_of_lt hb), Nat.ne_of_lt hb⟩
  have old : ∀ b o, s2.heap.get? b = some o -> h₁.get? b = some o := fun b o e => hsb₁.extBut b o (below b (Heap.lt_size e)).1 (Heap.get?_push_of_some _ (hH2 ▸ Heap.get?_push_of_some _ e))
  have hD : h₁.get? s2.heap.objs.size = some { cls := .type "list", dict := none, data := .seq ([] : List Value).toArray } := hsb₁.extBut _ _ hDC (Heap.get?_push_of_some _ (hH2 ▸ Heap.get?_push_size _ rfl))
  have nD : H2 s2.heap.objs.size = none := I2.hok.fresh (Nat.le_refl _)
  have nC : H2 G2.objs.size = none := I2.hok.fresh (by rw [hC]; exact Nat.le_succ _)
  have fpl : ∀ b ∈ fp, b < s2.heap.objs.size := fun b hb => by
    obtain ⟨o, e, _⟩ := T.obj _ _ st2 b hb
    exact Heap.lt_size e
  have cells : ∀ y c, cl.lookup y = some c -> ∃ v, s2.heap.IsCell c v := fun y c e => I2.cell y c (hsub y c e)
  have cellLt : ∀ y c, cl.lookup y = some c -> c < s2.heap.objs.size := fun y c e => by
    obtain ⟨v, o, ho, _⟩ := cells y c e
    exact Heap.lt_size ho
  have stkNo : ∀ b, b ≠ X.env.locals -> b ∉ X.fs -> b ∉ frs X.stack := fun b n1 n2 z => by
    rcases List.mem_cons.mp (I2.stkSub b z) with r | r
    · exact n1 r
    · exact n2 r
  obtain ⟨W, ⟨m0, w0⟩, turn⟩ := q2 s2.heap.objs.size nD
  have ok : (cxComp X N scope cl G2.objs.size s2 H2 fp pins).Ok := by
    refine ⟨I2.ok.mod, hkind, I2.ok.glob, I2.ok.blt, (by show s2.heap.objs.size <= G2.objs.size; rw [hC]; exact Nat.le_succ _), fun x y c a b => I2.ok.inj x y c (hsub x c a) (hsub y c b), fun x hx => ?_, fun x c a => (nomatch a), I2.ok.hd, I2.ok.frames, .inl rfl, fun b hb => ⟨(below b (fpl b hb)).1, fun x c e => ?_⟩, I2.bs, Nat.le_trans I2.ok.bsz I2.sz, fun b o e hb => ?_, fun b hb => stkNo b (f2 b hb).2.1 (f2 b hb).2.2.1, I2.stack, I2.stkFree⟩
    · have hx' : scope.names.lookup x = some .free := by
        rcases hx with z | z
        · exact relabel_lookup hcell (.inl rfl) z
        · exact relabel_lookup hcell (.inr rfl) z
      exact hhas _ (hfl x hx') rfl
    · exact (f2 b hb).2.2.2.2.1 x c (hsub x c e)
    · rcases (f2 b hb).2.2.2.1 with z | z
      · exact I2.ok.noex b o e z
      · exact absurd (Nat.lt_of_lt_of_le (Heap.lt_size e) (Nat.le_trans I2.ok.bsz z)) (Nat.lt_irrefl _)
  have inv0 : Inv (cxComp X N scope cl G2.objs.size s2 H2 fp pins) [] (σ0 σ) (upd H2 s2.heap.objs.size (.lst [])) { s2 with heap := h₁, toks := s2.toks + ([] : List (Str × Value)).length } := by
    refine ⟨ok, rfl, I2.bare, Un.laid old (Nat.le_refl _) nD, ⟨_, hns₁, fun i y v e1 e2 e3 => ?_⟩, fun y c e => ?_, ?_, fun y c e => ?_, fun p hp => ?_, ?_, hF.len σ⟩
    · obtain ⟨hfr, j, hj, hv⟩ := hF.at_ σ i y v e1 e2
      have hk := hvis _ (hfl y hfr) rfl
      obtain ⟨m, hn, hl⟩ := I2.loc
      obtain ⟨u, r, l⟩ := hl j y v hj hv (.inr (hk.elim .inl .inr))
      refine ⟨u, r, .inr ⟨relabel_free hfr, ?_⟩⟩
      rcases l with ⟨k1, _⟩ | ⟨_, c, hc, hcell⟩
      · rcases hk with z | z
        · rw [k1] at z; cases z
        · rw [k1] at z; cases z
      · obtain ⟨c', hc'⟩ := hhas _ (hfl y hfr) rfl
        have : c' = c := Option.some.inj ((hsub _ _ hc').symm.trans hc)
        subst this
        refine ⟨c', hc', ?_⟩
        obtain ⟨o, ho, hd⟩ := hcell
        exact ⟨o, old _ _ ho, hd⟩
    · obtain ⟨v, o, ho, hd⟩ := cells y c e
      exact ⟨v, o, old _ _ ho, hd⟩
    · show upd H2 s2.heap.objs.size (.lst []) G2.objs.size = none
      rw [upd_ne (Ne.symm hDC)]; exact nC
    · show upd H2 s2.heap.objs.size (.lst []) c = none
      rw [upd_ne (below c (cellLt y c e)).2]; exact I2.freeC y c (hsub y c e)
    · have hp' : p ∈ X.pn ++ pins := by simpa [cxComp] using hp
      obtain ⟨e, n, ne, nf, d⟩ := I2.pin p hp'
      refine ⟨old _ _ e, ?_, (below _ (Heap.lt_size e)).1, stkNo _ ne nf, d⟩
      rw [upd_ne (below _ (Heap.lt_size e)).2]; exact n
    · exact I2.hok.laid old (Nat.le_refl _) ⟨Nat.zero_le _, [], 0, .nil, hD⟩
  have tn0 : tn 0 h₁ := T.keep 0 _ _ st2 fun b _ o e => old b o e
  have stat : ∀ {H' : Hp}, (∀ b ∈ fp, H' b = none) -> ∀ b ∈ fp, FpOk (cxComp X N scope cl G2.objs.size s2 H2 fp pins) [] H' b := fun hn b hb =>
    ⟨hn b hb, (below b (fpl b hb)).1, stkNo b (f2 b hb).2.1 (f2 b hb).2.2.1, .inl hb, fun x c e => (f2 b hb).2.2.2.2.1 x c (hsub x c e), fun p hp => (f2 b hb).2.2.2.2.2 p (by simpa [cxComp] using hp)⟩
  have loop : codeAny (model X.prog X.w) X.A (.compLoop (.ListComp elt [⟨tg, iter, ifs, 0⟩] scope pos) 0 (.ref it) (.ref s2.heap.objs.size) (compEnvC scope cl G2.objs.size X.env))
      (compPost (model X.prog X.w) X.A X.xe (some (assign (.Name xn pos') X.env)) (fun _ s' => SP X pins D0 .next s') (.ref s2.heap.objs.size) G2.objs.size) { s2 with heap := h₁, toks := s2.toks + ([] : List (Str × Value)).length } := by
    refine compLoop_gen (fun n s' => ∃ i σ' H', Inv (cxComp X N scope cl G2.objs.size s2 H2 fp pins) [] σ' H' s' /\ tn i s'.heap /\ (∀ b ∈ fp, H' b = none) /\ W i n σ' H') ?_ m0
      ⟨0, σ0 σ, _, inv0, tn0, fun b hb => by rw [upd_ne (below b (fpl b hb)).2]; exact (f2 b hb).1, w0⟩
    rintro n s3 ⟨i, σ3, H3, I3, st3, fr3, w3⟩
    have no : ∀ {α : Type} {t : Sem α} {Q' : α -> Shared -> Prop} {E' : Value -> Shared -> Prop} {s' : Shared}, wpAny (model X.prog X.w) X.A t Q' (fun _ _ => False) s' -> wpAny (model X.prog X.w) X.A t Q' E' s' := fun h => wpAny_mono h (fun _ _ z => z) fun _ _ z => False.elim z
    rcases turn i n σ3 H3 w3 with ⟨stop, qn⟩ | ⟨go, step⟩
    · refine no (thn (T.done (cxComp X N scope cl G2.objs.size s2 H2 fp pins) rfl rfl rfl hc i [] s3 σ3 H3 _ I3 (stat fr3) st3 stop) fun r s4 ⟨hr, I4⟩ => ?_)
      subst hr
      obtain ⟨m, hn, _⟩ := I4.loc
      have mk : ∀ h', Heap.SameBut G2.objs.size s4.heap h' -> Inv X pins σ H3 { s4 with heap := h' } := by
        intro h' hs'
        have u : Un (frs X.stack) fp H2 H3 s2.heap h' := by
          have b0 : Un (frs X.stack) fp H2 H3 s2.heap s4.heap := I4.base
          have neC : ∀ b o, s2.heap.get? b = some o -> b ≠ G2.objs.size := fun b o e => (below b (Heap.lt_size e)).1
          exact ⟨fun b o e n hb hx => (hs'.2 b (neC b o e)).trans (b0.keep b o e n hb hx), fun b o e n hb hx => by
            obtain ⟨sl, z⟩ := b0.slot b o e n hb hx
            exact ⟨sl, (hs'.2 b (neC b o e)).trans z⟩, b0.free, fun b o e hx => by
            obtain ⟨o', z⟩ := b0.there b o e hx
            exact ⟨o', (hs'.2 b (neC b o e)).trans z⟩, b0.tups, b0.frzs, b0.tbls⟩
        have hfreeC : H3 G2.objs.size = none := I4.free
        have hk : HOk X.prog X.w H3 h' := fun b ob e => by
          refine (I4.hok b ob e).stay (fun c w' hc q => (hs'.2 c ?_).trans q) (fun _ q => q) fun _ _ q => q
          rintro rfl
          rcases hc with z | z
          · rw [← z, hfreeC] at e; cases e
          · rw [hfreeC] at z; cases z
        have hos : s4.os = s2.os := I4.os
        have J4 : Inv X pins σ H3 { s4 with heap := h' } := I2.call' (s' := { s4 with heap := h' }) (ch := fp) hos u hk I4.bare fun b hb => ⟨(f2 b hb).2.2.2.1, (f2 b hb).2.1, (f2 b hb).2.2.2.2.1, (f2 b hb).2.2.2.2.2⟩
        exact J4
      have hfreeC : H3 G2.objs.size = none := I4.free
      have J := mk s4.heap ⟨rfl, fun _ _ => rfl⟩
      have cL : G2.objs.size ≠ X.env.locals := (below _ I2.lt).1.symm
      have cC : ∀ x c, X.env.cells.lookup x = some c -> c ≠ G2.objs.size := fun x c e => by
        obtain ⟨v, o, ho, _⟩ := I2.cell x c e
        exact (below _ (Heap.lt_size ho)).1
      refine wpAny_assign_Name (store_ok2 J hN0 hi0 (.inl hx0) (v := .ref s2.heap.objs.size) rfl (fun s5 J5 ha => ?_) (.inr hx0))
      obtain ⟨a, sb, ha⟩ := ha
      have hac : a ≠ G2.objs.size := by
        rcases ha with z | z
        · rw [z]; exact cL.symm
        · exact cC xn a z
      refine ⟨m, hn.sameBut sb (Ne.symm hac), fun h'' hs'' => ?_⟩
      have ge : X.s₀.heap.objs.size <= G2.objs.size := by
        have := I2.sz
        rw [hC]
        exact Nat.le_trans this (Nat.le_succ _)
      have J6 : Inv X pins (σ.set i0 (some (.ref s2.heap.objs.size))) H3 { s5 with heap := h'' } := J5.turned (it := G2.objs.size) (t' := s5.toks) (fun b o hb e => (hs''.2 b hb).trans e) hfreeC cL (.inr ge) cC (fun p hp => (below _ (Heap.lt_size (I2.pin p hp).1)).1)
      exact ⟨_, H3, J6, qn⟩
    · refine no (thn (T.item (cxComp X N scope cl G2.objs.size s2 H2 fp pins) rfl rfl rfl hc i [] s3 σ3 H3 _ I3 (stat fr3) st3 go) fun r s4 ⟨u, hr, h4⟩ => ?_)
      subst hr
      refine no (thn h4 fun _ s5 ⟨x, H5, I5, r5, y5, st5, fr5⟩ => ?_)
      have I5' := I5.pinned (stat fr5) (T.obj _ _ st5)
      have again : ∀ {s7 : Shared} {σ7 : St} {H7 : Hp} {m' : Nat}, Inv (cxComp X N scope cl G2.objs.size s2 H2 fp pins) ([] ++ pinsAt fp s5.heap) σ7 H7 s7 -> m' < n -> W (i + 1) m' σ7 H7 -> ∃ m, m < n /\ ∃ i σ' H', Inv (cxComp X N scope cl G2.objs.size s2 H2 fp pins) [] σ' H' s7 /\ tn i s7.heap /\ (∀ b ∈ fp, H' b = none) /\ W i m σ' H' := fun {s7 σ7 H7 m'} I7 hm w7 => by
        refine ⟨m', hm, i + 1, σ7, H7, I7.unpinned, T.keep _ _ _ st5 fun b hb o e => (I7.pin (b, o) (List.mem_append_right _ (List.mem_append_right _ (mem_pinsAt hb e)))).1, fun b hb => ?_, w7⟩
        obtain ⟨o, e, d⟩ := T.obj _ _ st5 b hb
        exact (I7.pin (b, o) (List.mem_append_right _ (List.mem_append_right _ (mem_pinsAt hb e)))).2.1
      refine no (thn (hg cl G2.objs.size s2 H2 fp pins _ s5 σ3 H5 x u _ I5' r5 (step x H5 y5)) fun _ s6 ⟨σ6, H6, I6, q6⟩ => ?_)
      refine no (thn (ht cl G2.objs.size s2 H2 fp pins _ s6 σ6 H6 _ I6 q6) fun b s7 ⟨H7, I7, q7⟩ => ?_)
      cases b with
      | false =>
        rw [if_neg (by decide)] at q7
        obtain ⟨m', hm, w7⟩ := q7
        exact again I7 hm w7
      | true =>
        rw [if_pos rfl] at q7
        refine no (thn (he cl G2.objs.size s2 H2 fp pins _ s7 σ6 H7 _ I7 q7) fun yv s8 ⟨y, H8, I8, r8, ys, hys, hz, m', hm, w8⟩ => ?_)
        refine no (thn (mt_append (X := cxComp X N scope cl G2.objs.size s2 H2 fp pins) _ s8 σ6 H8 (.ref s2.heap.objs.size) [y] _ [yv] (fun _ H9 => H9 = upd H8 s2.heap.objs.size (.lst (ys ++ [y]))) I8 rfl (.cons r8 .nil) ⟨_, ys, y, rfl, rfl, hys, hz, rfl⟩) fun _ s9 ⟨_, H9, I9, _, q9⟩ => ?_)
        subst q9
        exact again I9 hm w8
  exact codeAny_compStart_list loop (T.self X.A 0 _ _ _ tn0 loop)
end L2
set_option Elab.async false
set_option linter.all false
set_option maxRecDepth 100000
set_option maxHeartbeats 4000000
namespace L2
open PySem PySem.Spec PyProof.Rows
theorem Same.seqT {K : PySem.W.Frag} {H H' : Hp} {a : Addr} {xs : List V} (e : Same H H') (h : SqT K H a xs) : SqT K H' a xs := by
  rcases h with (h | ⟨o, h⟩) | h
  · exact .inl (.inl (e _ _ h))
  · exact .inl (.inr ⟨o, e _ _ h⟩)
  · exact .inr h
def Alike (K : PySem.W.Frag) (H : Hp) : Nat -> V -> V -> Prop
  | 0, x, y => flatV x = true /\ flatV y = true /\ eqV x y = true
  | n + 1, x, y => (flatV x = true /\ flatV y = true /\ eqV x y = true) ∨
      ∃ p q xs ys, x = .ref p /\ y = .ref q /\ ((SqT K H p xs /\ SqT K H q ys) ∨ (SqL K H p xs /\ SqL K H q ys)) /\ Paired (Alike K H n) xs ys
theorem Alike.flat {K : PySem.W.Frag} {H : Hp} {n : Nat} {x y : V} (a : flatV x = true) (b : flatV y = true) (c : eqV x y = true) : Alike K H n x y := by
  cases n with
  | zero => exact ⟨a, b, c⟩
  | succ n => exact .inl ⟨a, b, c⟩
theorem Alike.int {K : PySem.W.Frag} {H : Hp} {n : Nat} (i : Int) : Alike K H n (.int i) (.int i) := Alike.flat rfl rfl (beq_self_eq_true i)
theorem Alike.str {K : PySem.W.Frag} {H : Hp} {n : Nat} (z : Str) : Alike K H n (.str z) (.str z) := Alike.flat rfl rfl (beq_self_eq_true z)
theorem Alike.tup {K : PySem.W.Frag} {H : Hp} {n : Nat} {p q : Addr} {xs ys : List V} (a : SqT K H p xs) (b : SqT K H q ys) (c : Paired (Alike K H n) xs ys) : Alike K H (n + 1) (.ref p) (.ref q) := .inr ⟨p, q, xs, ys, rfl, rfl, .inl ⟨a, b⟩, c⟩
theorem Alike.lst {K : PySem.W.Frag} {H : Hp} {n : Nat} {p q : Addr} {xs ys : List V} (a : SqL K H p xs) (b : SqL K H q ys) (c : Paired (Alike K H n) xs ys) : Alike K H (n + 1) (.ref p) (.ref q) := .inr ⟨p, q, xs, ys, rfl, rfl, .inr ⟨a, b⟩, c⟩
theorem pair_get {α β : Type} {F : α -> β -> Prop} : ∀ {xs : List α} {ys : List β}, Paired F xs ys -> ∀ (j : Nat) (a : α) (b : β), xs[j]? = some a -> ys[j]? = some b -> F a b
  | _, _, .nil, _, _, _, h, _ => by cases h
  | x :: xs, y :: ys, .cons r t, j, a, b, h1, h2 => by
    cases j with
    | zero => cases h1; cases h2; exact r
    | succ j => exact pair_get t j a b (by simpa using h1) (by simpa using h2)
section
variable {X : Cx} {pins : List (Addr × Obj)} {σ : St} {H : Hp} {s : Shared}
theorem all_true (n : Nat) : (List.range n).all (fun _ => true) = true := List.all_eq_true.mpr fun _ _ => rfl
theorem items_alike {n : Nat} {A : Around} {xs ys : List V} {its its2 : List Value} (r : Vals xs its) (r2 : Vals ys its2) (pr : Paired (Alike X.K H n) xs ys)
    (ih : ∀ x y u v, Alike X.K H n x y -> RelV x u -> RelV y v -> SeqAt.EqAt A s u v true) (j : Nat) (h1 : j < its.toArray.size) (h2 : j < its2.toArray.size) : SeqAt.EqAt A s its.toArray[j] its2.toArray[j] true := by
  have j1 : j < xs.length := by rw [r.length]; simpa using h1
  have j2 : j < ys.length := by rw [r2.length]; simpa using h2
  obtain ⟨u1, e1, q1⟩ := r.get (i := j) (x := xs[j]) (by simp [j1])
  obtain ⟨u2, e2, q2⟩ := r2.get (i := j) (x := ys[j]) (by simp [j2])
  have z1 : its.toArray[j] = u1 := by
    have := e1
    rw [List.getElem?_eq_getElem (by simpa using h1)] at this
    simpa using Option.some.inj this
  have z2 : its2.toArray[j] = u2 := by
    have := e2
    rw [List.getElem?_eq_getElem (by simpa using h2)] at this
    simpa using Option.some.inj this
  rw [z1, z2]
  exact ih _ _ _ _ (pair_get pr j _ _ (List.getElem?_eq_getElem j1) (List.getElem?_eq_getElem j2)) q1 q2
theorem eqAt_alike (I : Inv X pins σ H s) : ∀ (n : Nat) (A : Around) (x y : V) (u v : Value), A.units + n < cLine -> Alike X.K H n x y -> RelV x u -> RelV y v -> SeqAt.EqAt A s u v true
  | 0, A, x, y, u, v, _, h, rx, ry => by
    have := eqAt_V (A := A) (s := s) rx ry h.1 h.2.1
    rw [h.2.2] at this
    exact this
  | n + 1, A, x, y, u, v, hu, h, rx, ry => by
    rcases h with h | ⟨p, q, xs, ys, rfl, rfl, hq, pr⟩
    · have := eqAt_V (A := A) (s := s) rx ry h.1 h.2.1
      rw [h.2.2] at this
      exact this
    · cases (show u = Value.ref p from rx)
      cases (show v = Value.ref q from ry)
      by_cases hpq : p = q
      · subst hpq
        exact SeqAt.EqAt.same _
      · refine SeqAt.EqAt.of_refs hpq ?_
        have hl := pr.length
        have ih := fun x y u v => eqAt_alike I n A.in1 x y u v (by show A.units + 1 + n < cLine; omega)
        rcases hq with ⟨h1, h2⟩ | ⟨h1, h2⟩
        · obtain ⟨its, r, pl, _⟩ := I.tuple h1
          obtain ⟨its2, r2, pl2, _⟩ := I.tuple h2
          have := SeqAt.RcAt.tuples (A := A) (e := fun _ => true) (show s.heap.IsTuple p its.toArray from pl) (show s.heap.IsTuple q its2.toArray from pl2) (by omega) (fun j a b => items_alike r r2 pr ih j a b)
          rw [all_true, List.size_toArray, List.size_toArray, ← r.length, ← r2.length, hl, beq_self_eq_true] at this
          exact this
        · obtain ⟨its, r, pl, _⟩ := I.list h1
          obtain ⟨its2, r2, pl2, _⟩ := I.list h2
          have := SeqAt.RcAt.lists (A := A) (e := fun _ => true) pl.isList pl2.isList (by rw [List.size_toArray, List.size_toArray, ← r.length, ← r2.length, hl]) (by omega) (fun j a b => items_alike r r2 pr ih j a b)
          rw [all_true] at this
          exact this
end
def rAlike (K : PySem.W.Frag) (b : Bool) : R2 := fun x y H Q => ∃ p q xs ys, x = .ref p /\ y = .ref q /\ ((SqT K H p xs /\ SqT K H q ys) ∨ (SqL K H p xs /\ SqL K H q ys)) /\ Paired (Alike K H 40) xs ys /\ Q (.bl b) H
theorem op_eqA {X : Cx} {K : PySem.W.Frag} (hK : X.K = K) (hu : X.A.units + 64 < cLine) : OpR X (compareOp .Eq) (rAlike K true) := by
  subst hK
  intro pins s σ H x y v u Q I rx ry h
  obtain ⟨p, q, xs, ys, rfl, rfl, hq, pr, k⟩ := h
  cases rx
  cases ry
  have hl := pr.length
  have ih := fun x y u v => eqAt_alike I 40 X.A.in1 x y u v (by show X.A.units + 1 + 40 < cLine; omega)
  rcases hq with ⟨h1, h2⟩ | ⟨h1, h2⟩
  · obtain ⟨its, r, pl, _⟩ := I.tuple h1
    obtain ⟨its2, r2, pl2, _⟩ := I.tuple h2
    refine SeqAt.eq_tupleAt (e := fun _ => true) (show s.heap.IsTuple p its.toArray from pl) (show s.heap.IsTuple q its2.toArray from pl2) (by omega) (fun j a b => items_alike r r2 pr ih j a b) ?_
    rw [all_true, List.size_toArray, List.size_toArray, ← r.length, ← r2.length, hl, beq_self_eq_true]
    exact ⟨.bl _, H, I, rfl, k⟩
  · obtain ⟨its, r, pl, _⟩ := I.list h1
    obtain ⟨its2, r2, pl2, _⟩ := I.list h2
    refine SeqAt.eq_listAt (e := fun _ => true) pl.isList pl2.isList (by rw [List.size_toArray, List.size_toArray, ← r.length, ← r2.length, hl]) (by omega) (fun j a b => items_alike r r2 pr ih j a b) ?_
    rw [all_true]
    exact ⟨.bl _, H, I, rfl, k⟩
theorem op_neA {X : Cx} {K : PySem.W.Frag} (hK : X.K = K) (hu : X.A.units + 64 < cLine) : OpR X (compareOp .NotEq) (rAlike K false) := by
  subst hK
  intro pins s σ H x y v u Q I rx ry h
  obtain ⟨p, q, xs, ys, rfl, rfl, hq, pr, k⟩ := h
  cases rx
  cases ry
  have hl := pr.length
  have ih := fun x y u v => eqAt_alike I 40 X.A.in1 x y u v (by show X.A.units + 1 + 40 < cLine; omega)
  rcases hq with ⟨h1, h2⟩ | ⟨h1, h2⟩
  · obtain ⟨its, r, pl, _⟩ := I.tuple h1
    obtain ⟨its2, r2, pl2, _⟩ := I.tuple h2
    refine SeqAt.RcNeAt.tuples (e := fun _ => true) (show s.heap.IsTuple p its.toArray from pl) (show s.heap.IsTuple q its2.toArray from pl2) (by omega) (fun j a b => items_alike r r2 pr ih j a b) _ _ _ _ ?_
    rw [all_true, List.size_toArray, List.size_toArray, ← r.length, ← r2.length, hl, beq_self_eq_true]
    exact ⟨.bl _, H, I, rfl, k⟩
  · obtain ⟨its, r, pl, _⟩ := I.list h1
    obtain ⟨its2, r2, pl2, _⟩ := I.list h2
    refine SeqAt.RcNeAt.lists (e := fun _ => true) pl.isList pl2.isList (by rw [List.size_toArray, List.size_toArray, ← r.length, ← r2.length, hl]) (by omega) (fun j a b => items_alike r r2 pr ih j a b) _ _ _ _ ?_
    rw [all_true]
    exact ⟨.bl _, H, I, rfl, k⟩
theorem op_neTF {X : Cx} {K : PySem.W.Frag} (hK : X.K = K) (hu : X.A.units < cLine) : OpR X (compareOp .NotEq) (fun x y H Q => ∃ p q xs ys, x = .ref p /\ y = .ref q /\ SqT K H p xs /\ SqT K H q ys /\ xs.all flatV = true /\ ys.all flatV = true /\ Q (.bl (!eqVs xs ys)) H) := by
  subst hK
  intro pins s σ H x y v u Q I rx ry h
  obtain ⟨p, q, xs, ys, rfl, rfl, hx, hy, fx, fy, hq⟩ := h
  cases rx
  cases ry
  obtain ⟨its, r, pl, hz⟩ := I.tuple hx
  obtain ⟨its2, r2, pl2, hz2⟩ := I.tuple hy
  refine SeqAt.RcNeAt.tuples (e := fun j => eqV (xs.getD j .non) (ys.getD j .non)) (show s.heap.IsTuple p its.toArray from pl) (show s.heap.IsTuple q its2.toArray from pl2) hu (fun j h1 h2 => eqAt_items (X := X) r r2 fx fy j h1 h2) _ _ _ _ ?_
  rw [List.size_toArray, List.size_toArray, ← r.length, ← r2.length, eqVs_range]
  exact ⟨.bl _, H, I, rfl, hq⟩
end L2
set_option Elab.async false
set_option linter.all false
set_option maxRecDepth 100000
set_option maxHeartbeats 4000000
namespace Dt
open PySem PySem.Spec PyProof.Rows
theorem entry_loop : entryFor table "dict.update.loop" = some Builtin.«dict.update.loop» := entryFor_of_tree (by kernel_rfl)
theorem plain_loop : plainId "dict.update.loop" = true := by decide +kernel
theorem miss_keys : typeLookup (.type "tuple") "keys" = pure none := am_miss_of_fast (by decide +kernel)
section
variable {prog : Program} {w : World} {A : Around} {E : Value -> Shared -> Prop} {s : Shared}
theorem quiet_tuple {a : Addr} {o : Obj} {xs : Array Value} {k : Nat} {name : Str} {Q : Option Value -> Shared -> Prop}
    (hx : s.heap.get? a = some o) (hc : o.cls = .type "tuple") (hdat : o.data = .seq xs k) (hd : o.dict = none) (hmiss : typeLookup (.type "tuple") name = pure none)
    (hname : (["__module__", "__name__", "__qualname__", "__doc__", "__annotations__"] : List Str).contains name = false) (hA : A.handled = none)
    (h : ∀ h' tk, (∀ b u, s.heap.get? b = some u -> h'.get? b = some u) -> Q none { s with heap := h', toks := tk }) (hsz : name.length + 100 <= sizeLine := by size_fits) :
    wpAny (model prog w) A (getAttr? (.ref a) name) Q E s := by
  obtain ⟨c, dct, dat, sl⟩ := o
  simp only at hc hdat hd
  subst hc hdat hd
  obtain ⟨hp, g, d, tk, os⟩ := s
  have hT : ∀ tk', (⟨hp, g, d, tk', os⟩ : Shared).TypeIs (.ref a) "tuple" := fun _ => ⟨_, hx, rfl⟩
  have f1 := sub_AttributeError
  have f3 := PySem.F.slot_tuple_getattribute.lookup
  have f4 := PySem.F.slot_tuple_getattribute.bind (.ref a)
  have f5 := am_tuple_getattr_none
  unfold getAttr? getAttrBy? getAttrBy
  repeat (any_goals (first | assumption | exact hT _ | ((with_reducible show wpAny _ _ (call (Value.builtin "tuple.__getattribute__") _ _) _ _ _); refine call_meets PySem.F.slot_tuple_getattribute (hT _) am_entry_tuple_getattribute (PySem.F.args_tuple_getattribute_2 _ _) (meets_getattribute_miss_tuple a xs k sl name _ hmiss hname hsz) ⟨hx, hA, fun h' tk' e hx' => ?_⟩) | wp_step))
  obtain ⟨t', u', he⟩ := hx'.there
  show wpAny _ _ (getattributeRaised _ _ _ _ _ _ _) _ _ _
  unfold getattributeRaised
  repeat (any_goals (first | assumption | wp_step))
  all_goals exact h _ _ hx'.keeps
end
section
variable {prog : Program} {w : World} {K : Type} [DecidableEq K] {knd : KeyKind prog w K} {A : Around} {E : Value -> Shared -> Prop} {s : Shared}
def PairAt (knd : KeyKind prog w K) (h : Heap) (u : Value) (kv : K × Value) : Prop := ∃ p key, u = .ref p /\ h.IsTuple p #[key, kv.2] /\ knd.is kv.1 key = true
theorem dictOf_keep {h h' : Heap} {d : Addr} {kvs : List (K × Value)} (x : h.DictOf knd d kvs) (k : ∀ o, h.get? d = some o -> h'.get? d = some o) : h'.DictOf knd d kvs := by
  obtain ⟨o, es, ep, e, r⟩ := x
  exact ⟨o, es, ep, k _ e, r⟩
theorem loop {h₀ : Heap} {d it t : Addr} {items : Array Value} {kvs : List (K × Value)} {R : Result -> Shared -> Prop} (hh : A.handled = none) (hd0 : h₀.get? d = none) (hi0 : h₀.get? it = none) (hdi : d ≠ it)
    (ht : h₀.IsTuple t items) (hlen : items.size = kvs.length) (hp : ∀ (j : Nat) u kv, items[j]? = some u -> kvs[j]? = some kv -> PairAt knd h₀ u kv) (hsz : kvs.length <= sizeLine) :
    ∀ (k i : Nat) (s : Shared), kvs.length - i = k -> i <= kvs.length -> (∀ b o, h₀.get? b = some o -> s.heap.get? b = some o) -> s.heap.IsTupleIter it t i -> s.heap.DictOf knd d (merged [] (kvs.take i)) ->
      (∀ h' tk, (∀ b o, h₀.get? b = some o -> h'.get? b = some o) -> h'.DictOf knd d (merged [] kvs) -> R (.ok (.ret .none)) { s with heap := h', toks := tk }) ->
      codeAny (model prog w) A (.builtin "dict.update.loop" ⟨[.ref d, .ref it, rawInt i, .none], []⟩) R s := by
  have tk0 : ∀ {h : Heap}, (∀ b o, h₀.get? b = some o -> h.get? b = some o) -> h.IsTuple t items := fun k => by
    obtain ⟨o, e, r⟩ := ht
    exact ⟨o, k _ _ e, r⟩
  have nd : ∀ b o, h₀.get? b = some o -> b ≠ d := fun b o e z => by rw [z, hd0] at e; cases e
  have ni : ∀ b o, h₀.get? b = some o -> b ≠ it := fun b o e z => by rw [z, hi0] at e; cases e
  intro k
  induction k with
  | zero =>
    intro i s hk hi kp hit hD hR
    have hin : i = kvs.length := by omega
    subst hin
    refine codeAny_builtin entry_loop ?_
    rw [Around.under_plainId plain_loop _]
    show wpAny _ A.in1 (pyNext (.ref it) >>= _) _ _ s
    refine wpAny_bind (wpAny_pyNext_tuple_end (A := A.in1) hh hit (tk0 kp) (by rw [Array.getElem?_eq_none_iff]; omega) fun h' eb => ?_)
    show wpAny _ A.in1 (Builtin.Dict.addKeywords d [] >>= _) _ _ _
    refine wpAny_bind (wpAny_pure (wpAny_pure (hR h' s.toks (fun b o e => eb b o (ni b o e) (kp b o e)) ?_)))
    rw [List.take_length] at hD
    exact dictOf_keep hD fun o e => eb d o hdi e
  | succ k ih =>
    intro i s hk hi kp hit hD hR
    have hlt : i < kvs.length := by omega
    have hit' : i < items.size := by omega
    refine codeAny_builtin entry_loop ?_
    rw [Around.under_plainId plain_loop _]
    show wpAny _ A.in1 (pyNext (.ref it) >>= _) _ _ s
    obtain ⟨p, key, eu, hpt, hk1⟩ := hp i items[i] kvs[i] (Array.getElem?_eq_getElem hit') (List.getElem?_eq_getElem hlt)
    refine wpAny_bind (wpAny_pyNext_tuple_item hit (tk0 kp) (Array.getElem?_eq_getElem hit') fun h' st' sb => ?_)
    have kp1 : ∀ b o, h₀.get? b = some o -> h'.get? b = some o := fun b o e => (sb.2 b (ni b o e)).trans (kp b o e)
    have hD1 : h'.DictOf knd d (merged [] (kvs.take i)) := dictOf_keep hD fun o e => (sb.2 d hdi).trans e
    obtain ⟨op, ep, cp, np, dp⟩ := hpt
    have ep1 := kp1 _ _ ep
    rw [eu]
    show wpAny _ A.in1 (holding [Value.ref p] _ >>= _) _ _ _
    refine wpAny_bind (wpAny_holding ?_)
    refine wpAny_bind (wpAny_tryCatch ?_)
    unfold Builtin.Dict.pairItems
    refine wpAny_bind (wpAny_typeOf (T := "tuple") ⟨op, ep1, cp⟩ ?_)
    rw [if_pos (by decide)]
    refine wpAny_bind (wpAny_seqItems ep1 dp ?_)
    refine wpAny_pure ?_
    show wpAny _ A.in1 (holding [key, kvs[i].2] (dictSet d key kvs[i].2)) _ _ _
    refine wpAny_holding (wpAny_dictSet_pairs hk1 hD1 (fun h2 hD2 sb2 => ?_) ?_)
    · refine wpAny_pure ⟨plainId_quiet plain_loop _, ?_⟩
      have st2 : h2.IsTupleIter it t (i + 1) := by
        obtain ⟨o, e, r⟩ := st'
        exact ⟨o, (sb2.2 it (Ne.symm hdi)).trans e, r⟩
      have kp2 : ∀ b o, h₀.get? b = some o -> h2.get? b = some o := fun b o e => (sb2.2 b (nd b o e)).trans (kp1 b o e)
      have e2 : merged [] (kvs.take (i + 1)) = stored (merged [] (kvs.take i)) kvs[i].1 kvs[i].2 := merged_take_succ [] kvs i kvs[i] (List.getElem?_eq_getElem hlt)
      exact ih (i + 1) _ (by omega) hlt kp2 st2 (by rw [e2]; exact hD2) fun h3 tk k3 d3 => hR h3 tk k3 d3
    · have := merged_length_le ([] : List (K × Value)) (kvs.take i)
      rw [List.length_take] at this
      simp only [List.length_nil] at this
      omega
theorem call_tuple {t : Addr} {o : Obj} {items : Array Value} {n : Nat} {kvs : List (K × Value)} {Q : Value -> Shared -> Prop} (hh : A.handled = none)
    (hx : s.heap.get? t = some o) (hc : o.cls = .type "tuple") (hdat : o.data = .seq items n) (hdn : o.dict = none) (hlen : items.size = kvs.length) (hp : ∀ (j : Nat) u kv, items[j]? = some u -> kvs[j]? = some kv -> PairAt knd s.heap u kv) (hsz : kvs.length <= sizeLine)
    (h : ∀ h' tk, (∀ b o, s.heap.get? b = some o -> h'.get? b = some o) -> h'.DictOf knd s.heap.objs.size (merged [] kvs) -> Q (.ref s.heap.objs.size) { s with heap := h', toks := tk }) :
    wpAny (model prog w) A (call (.type "dict") [.ref t]) Q E s := by
  refine callType_codes (Q₁ := fun obj s₁ => obj = .ref s.heap.objs.size /\ s₁ = { s with heap := s.heap.push { cls := .type "dict", data := .dict #[] } }) PySem.F.kt_called_dict (PySem.F.kt_typeCall_dict_1 _) PySem.F.entry_dict_init (kt_code_dict_new _ ⟨rfl, rfl⟩) ?_
  rintro obj s₁ ⟨rfl, rfl⟩
  have hnew : (s.heap.push { cls := .type "dict", data := .dict #[] }).DictOf knd s.heap.objs.size [] := Heap.DictOf.new s.heap
  refine ⟨hnew.typeIs, PySem.F.args_dict_init_2 _ _, ?_⟩
  unfold Builtin.«dict.__init__»
  refine wpAny_bind ?_
  unfold Builtin.Dict.selfAndRest
  refine wpAny_bind (wpAny_notOrdered_dict hnew.typeIs ?_)
  show wpAny _ _ (pure (s.heap.objs.size, [Value.ref t])) _ _ _
  refine wpAny_pure ?_
  show wpAny _ _ (Builtin.Dict.updateFrom "dict.__init__" s.heap.objs.size (.ref t) [] .none) _ _ _
  unfold Builtin.Dict.updateFrom
  have hx1 : (s.heap.push { cls := .type "dict", data := .dict #[] }).get? t = some o := Heap.get?_push_of_some _ hx
  refine wpAny_bind (wpAny_typeOf (T := "tuple") ⟨o, hx1, hc⟩ ?_)
  rw [if_pos (by decide)]
  refine wpAny_bind (quiet_tuple hx1 hc hdat hdn miss_keys (by decide +kernel) hh fun h1 tk1 k1 => ?_)
  rw [if_pos (by rfl)]
  refine wpAny_bind (wpAny_rule ?_)
  have kp1 : ∀ b u, s.heap.get? b = some u -> h1.get? b = some u := fun b u e => k1 b u (Heap.get?_push_of_some _ e)
  have ht : s.heap.IsTuple t items := ⟨o, hx, hc, n, hdat⟩
  have ht1 : h1.IsTuple t items := ⟨o, kp1 _ _ hx, hc, n, hdat⟩
  refine wpAny_bind (wpAny_pyIter_tuple ht1 ?_)
  have hD1 : h1.DictOf knd s.heap.objs.size [] := dictOf_keep hnew fun o e => k1 _ _ e
  have hlt : s.heap.objs.size < h1.objs.size := let ⟨_, _, _, e, _⟩ := hD1; Heap.lt_size e
  have hle : s.heap.objs.size <= h1.objs.size := Nat.le_of_lt hlt
  refine wpAny_pure ⟨plainId_quiet plain_loop _, ?_⟩
  refine loop (A := A.in1) (knd := knd) (h₀ := s.heap) (items := items) (kvs := kvs) hh (Heap.get?_none_of_le (Nat.le_refl _)) (Heap.get?_none_of_le hle) (Nat.ne_of_lt hlt) ht hlen hp hsz kvs.length 0 { s with heap := h1.push { cls := .type "tuple_iterator", data := .fields #[.ref t, .int 0 0] }, toks := tk1 } (by omega) (Nat.zero_le _) (fun b u e => Heap.get?_push_of_some _ (kp1 b u e)) ⟨_, Heap.get?_push_size _ rfl, rfl, rfl⟩ (hD1.push _) fun h2 tk2 k2 d2 => ?_
  exact ⟨rfl, h h2 tk2 k2 d2⟩
end
end Dt
namespace Dt
open PySem PySem.Spec PyProof.Rows
section
variable {prog : Program} {w : World} {K : Type} [DecidableEq K] {knd : KeyKind prog w K} {A : Around} {E : Value -> Shared -> Prop} {s : Shared}
theorem sorted_dict {d : Addr} {kvs : List (K × Value)} {ns : List Int} {Q : Value -> Shared -> Prop} (hh : A.handled = none) (lo : (d == sysModules) = false) (hd : s.heap.DictOf knd d kvs) (h64 : kvs.length < 64)
    (hI : ∀ vs : List Value, vs.length = kvs.length -> (∀ (j : Nat) v, vs[j]? = some v -> ∃ k x, kvs[j]? = some (k, x) /\ knd.is k v = true) -> IntsAre vs ns)
    (h : ∀ B h' tk out n ns', (∀ b o, s.heap.get? b = some o -> h'.get? b = some o) -> s.heap.get? B = none -> h'.get? B = some (seqObj "list" out n) -> IntsAre out.toList ns' -> ns'.Perm ns -> ns'.Pairwise (· <= ·) -> Q (.ref B) { s with heap := h', toks := tk }) :
    wpAny (model prog w) A (call (.builtin "sorted") [.ref d]) Q E s := by
  obtain ⟨ep, hat⟩ := hd.dictAt
  refine Calls.call_function_entry kind_sorted plain_sorted entry_sorted (args_sorted1 _) ?_
  unfold Builtin.«sorted»
  refine wpAny_bind (m := checkCount "sorted" 1 1 _) (wpAny_pure ?_)
  refine wpAny_bind (PySem.W.kdu_collect (A := A.in1) (PySem.W.kdl_dict (knd := knd) (kvs := kvs) (ep := ep) lo) hh hat (by rw [sizeLine_eq]; omega) fun h' tk acc hk hacc => ?_)
  have hl : acc.toList.length = kvs.length := by rw [Array.length_toList]; exact hacc.1
  refine wpAny_bind (wpAny_newList ?_ (by rw [hl, sizeLine_eq]; omega))
  have hI' := hI acc.toList hl fun j v e => hacc.2 j v (by rw [← Array.getElem?_toList]; exact e)
  have hoL : (h'.push { cls := .type "list", data := .seq acc.toList.toArray }).get? h'.objs.size = some (seqObj "list" acc.toList.toArray 0) := Heap.get?_push_size _ rfl
  refine wpAny_bind (wpAny_holding (wpAny_call_entry slot_list_sort ⟨_, hoL, rfl⟩ entry_list_sort (list_sort_tree hoL hI' (by omega) fun out ns' a1 a2 a3 => ⟨_, rfl, ?_⟩) (args_list_sort _)))
  refine wpAny_pure ⟨_, rfl, ?_⟩
  obtain ⟨e, he⟩ := sortedHeap_at (out := out) hoL
  refine h h'.objs.size _ tk out e ns' (fun b o q => ?_) ?_ he a1 a2 a3
  · have q' := hk b o q
    have lt := Heap.lt_size q'
    rw [sortedHeap_old (Nat.ne_of_lt lt) (by rw [size_push']; exact Nat.lt_succ_of_lt lt)]
    exact Heap.get?_push_of_some _ q'
  · cases z : s.heap.get? h'.objs.size with
    | none => rfl
    | some o => exact absurd (Heap.lt_size (hk _ _ z)) (Nat.lt_irrefl _)
end
end Dt
set_option Elab.async false
set_option linter.all false
set_option maxRecDepth 100000
set_option maxHeartbeats 4000000
namespace L2
open PySem PySem.Spec PyProof.Rows
section
variable {X : Cx} {pins : List (Addr × Obj)} {σ : St} {H : Hp} {s : Shared}
theorem Inv.adoptN {a : Addr} {o : HO} (I : Inv X pins σ H s) (hn : H a = none) (h0 : ∀ u, X.s₀.heap.get? a = some u -> a ∉ X.ex -> False) (hL : a ≠ X.env.locals) (hC : ∀ x c, X.env.cells.lookup x = some c -> c ≠ a) (hp : ∀ p ∈ X.pn ++ pins, p.1 ≠ a) (ok : ObjOk X.prog X.w (upd H a o) s.heap a o) : Inv X pins σ (upd H a o) s := by
  refine ⟨I.ok, I.os, I.bare, ⟨I.base.keep, I.base.slot, fun b u e n hx => ?_, I.base.there, fun b xs q => ?_, fun b u xs q => ?_, fun b ps q => ?_⟩, I.loc, I.cell, ?_, fun x c e => ?_, fun p hp' => ?_, fun b u e => ?_, I.len⟩
  · rw [upd_ne (fun z => by rw [z] at e hx; exact h0 u e hx)]; exact I.base.free b u e n hx
  · have z := I.base.tups b xs q
    rw [upd_ne (ne_of_none z hn)]; exact z
  · have z := I.base.frzs b u xs q
    rw [upd_ne (ne_of_none z hn)]; exact z
  · obtain ⟨more, z⟩ := I.base.tbls b ps q
    exact ⟨more, by rw [upd_ne (ne_of_none z hn)]; exact z⟩
  · rw [upd_ne (Ne.symm hL)]; exact I.free
  · rw [upd_ne (hC x c e)]; exact I.freeC x c e
  · obtain ⟨e, n, ne, nf, d⟩ := I.pin p hp'
    exact ⟨e, by rw [upd_ne (hp p hp')]; exact n, ne, nf, d⟩
  · by_cases hb : b = a
    · subst hb; rw [upd_same] at e; cases e; exact ok
    · rw [upd_ne hb] at e
      exact (I.hok b u e).stay (fun c v _ q => q) (fun c q => by rw [upd_ne (ne_of_none q hn)]; exact q) fun c xs q => by rw [upd_ne (ne_of_none q hn)]; exact q
theorem Inv.later {a : Addr} {o : HO} {H1 : Hp} {s1 : Shared} (I : Inv X pins σ H s) (hB : s.heap.get? a = none) (J : Inv X pins σ H1 s1) (hn : H1 a = none) (ok : ObjOk X.prog X.w (upd H1 a o) s1.heap a o) : Inv X pins σ (upd H1 a o) s1 := by
  have nl : ∀ b u, s.heap.get? b = some u -> b ≠ a := fun b u e z => by rw [z, hB] at e; cases e
  refine J.adoptN hn (fun u e hx => ?_) ?_ (fun x c e => ?_) (fun p hp => nl _ _ (I.pin p hp).1) ok
  · obtain ⟨o', e'⟩ := I.base.there a u e hx
    exact nl a o' e' rfl
  · obtain ⟨m, ⟨oL, es, ep, eL, _⟩, _⟩ := id I.loc
    exact Ne.symm (nl _ _ eL)
  · obtain ⟨v, oc, ec, _⟩ := I.cell x c e
    exact nl _ _ ec
theorem Inv.none_at {a : Addr} (I : Inv X pins σ H s) (hB : s.heap.get? a = none) : H a = none := by
  cases z : H a with
  | none => rfl
  | some u =>
    obtain ⟨v, hv⟩ := (I.hok a u z).there
    rw [hB] at hv; cases hv
theorem Inv.newAt {a : Addr} {o : HO} {h' : Heap} {t' : Nat} (I : Inv X pins σ H s) (k : ∀ b u, s.heap.get? b = some u -> h'.get? b = some u) (hB : s.heap.get? a = none) (new : ObjOk X.prog X.w (upd H a o) h' a o) :
    Inv X pins σ (upd H a o) { s with heap := h', toks := t' } := I.later hB (I.kept (t' := t') k) (I.none_at hB) new
def PairsV (K : PySem.W.Frag) (H : Hp) : List V -> List (Key × V) -> Prop := Paired fun x kv => ∃ p, x = .ref p /\ SqT K H p [kV kv.1, kv.2]
theorem pairs_raw (I : Inv X pins σ H s) {ps : List V} {kvs : List (Key × V)} (pr : PairsV X.K H ps kvs) : ∀ {its : List Value}, Vals ps its ->
    ∃ rs : List (Key × Value), KV kvs rs /\ rs.length = its.length /\ ∀ (j : Nat) u kv, its[j]? = some u -> rs[j]? = some kv -> Dt.PairAt (mixKind X.prog X.w) s.heap u kv := by
  unfold PairsV at pr
  induction pr with
  | nil =>
    intro its r
    cases r
    exact ⟨[], .nil, rfl, fun j u kv h => by simp at h⟩
  | @cons x kv ps kvs h t ih =>
    intro its r
    cases r with
    | @cons _ u _ its r q =>
      obtain ⟨rs, h1, h2, h3⟩ := ih q
      obtain ⟨p, rfl, hq⟩ := h
      cases (show u = Value.ref p from r)
      obtain ⟨its2, r2, pl, _⟩ := I.tuple hq
      obtain ⟨uk, uv, rfl, rk, rv⟩ := vals2 r2
      refine ⟨(kv.1, uv) :: rs, .cons ⟨rfl, rv⟩ h1, by rw [List.length_cons, List.length_cons, h2], fun j u' kv' e1 e2 => ?_⟩
      cases j with
      | zero =>
        cases (show some (Value.ref p) = some u' from e1)
        cases (show some (kv.1, uv) = some kv' from e2)
        exact ⟨p, uk, rfl, pl, kV_is rk⟩
      | succ j => exact h3 j u' kv' (by simpa using e1) (by simpa using e2)
end
theorem ints_of : ∀ {vs : List Value} {ns : List Int}, vs.length = ns.length -> (∀ (j : Nat) v i, vs[j]? = some v -> ns[j]? = some i -> ∃ t, v = .int i t) -> IntsAre vs ns
  | [], [], _, _ => .nil
  | v :: vs, n :: ns, hl, h => by
    obtain ⟨t, rfl⟩ := h 0 v n rfl rfl
    exact .cons n t (ints_of (by simpa using hl) fun j v i e1 e2 => h (j + 1) v i (by simpa using e1) (by simpa using e2))
theorem vals_of_ints : ∀ {vs : List Value} {ns : List Int}, IntsAre vs ns -> Vals (ns.map V.int) vs
  | _, _, .nil => .nil
  | _, _, .cons n t r => .cons ⟨t, rfl⟩ (vals_of_ints r)
theorem call_sortedK {X : Cx} (hc : X.calm = true) : CallR X (.builtin "sorted") (fun xs H Q => ∃ d kvs ns, xs = [.ref d] /\ Rd H d (.dK kvs) /\ kvs.map (·.1) = ns.map Sum.inl /\ kvs.length < 64 /\
    ∀ l, H l = none -> Q (.ref l) (upd H l (.lst ((PySem.W.sortI ns).map V.int)))) := by
  intro pins s σ H xs us Q I r h
  obtain ⟨d, kvs, ns, rfl, hd, hk, h64, q⟩ := h
  obtain ⟨u, rfl, rx⟩ := r.one
  cases (show u = Value.ref d from rx)
  obtain ⟨z, lo, vs, rel, dd⟩ := dk_rd I.hok hd
  have lkn : kvs.length = ns.length := by have := congrArg List.length hk; simpa using this
  refine Dt.sorted_dict (knd := mixKind X.prog X.w) (ns := ns) (I.ok.hd hc) lo dd (by rw [← rel.length]; exact h64) (fun us hl hu => ints_of (by rw [hl, ← rel.length, lkn]) fun j v i e1 e2 => ?_) fun B h' tk out n ns' k hB e a1 a2 a3 => ?_
  · obtain ⟨k, x, ex, hk1⟩ := hu j v e1
    have ek : (vs.map (·.1))[j]? = some (Sum.inl i) := by rw [← rel.keys, hk, List.getElem?_map, e2]; rfl
    rw [List.getElem?_map, ex] at ek
    have e3 : k = Sum.inl i := by simpa using ek
    subst e3
    exact Value.isInt_shape hk1
  · have es := PySem.W.eq_sortI a2 a3
    subst es
    have ln : (PySem.W.sortI ns).length = ns.length := (PySem.W.sortI_perm ns).length_eq
    refine ⟨.ref B, _, I.newAt (t' := tk) k hB (show ObjOk X.prog X.w _ _ _ (.lst ((PySem.W.sortI ns).map V.int)) from ⟨?_, out.toList, n, vals_of_ints a1, by rw [e]⟩), rfl, q _ (I.none_at hB)⟩
    rw [List.length_map, ln, ← lkn, sizeLine_eq]
    omega
end L2
set_option Elab.async false
set_option linter.all false
set_option maxRecDepth 100000
set_option maxHeartbeats 4000000
namespace Srt
open PySem PySem.W PyProof.Rows
section
variable {key : Nat -> Int} {n : Nat}
variable (hk : ∀ i j, i < n -> j < n -> key i = key j -> i = j)
include hk
end
end Srt
set_option Elab.async false
set_option linter.all false
set_option maxRecDepth 100000
set_option maxHeartbeats 4000000
namespace Dt
open PySem PySem.W PySem.Spec PyProof.Rows
section
variable {prog : Program} {w : World} {A : Around} {E : Value -> Shared -> Prop} {s : Shared}
end
section
variable {prog : Program} {w : World} {K : Type} [DecidableEq K] {knd : KeyKind prog w K} {A : Around} {E : Value -> Shared -> Prop} {s : Shared}
end
end Dt
namespace L2
open PySem PySem.Spec PyProof.Rows
end L2
set_option Elab.async false
set_option linter.all false
set_option maxRecDepth 100000
set_option maxHeartbeats 4000000
namespace Dt
open PySem PySem.Spec PyProof.Rows
open AutoSeq1 (wpAny_loadPart')
section
variable {prog : Program} {w : World} {A : Around} {E : Value -> Shared -> Prop} {s : Shared}
theorem next_tuple {it t : Addr} {i : Nat} {items : Array Value} {x : Value} {Q : Value -> Shared -> Prop} (hit : s.heap.IsTupleIter it t i) (ht : s.heap.IsTuple t items) (hx : items[i]? = some x)
    (hQ : ∀ h', h'.IsTupleIter it t (i + 1) -> Heap.SameBut it s.heap h' -> Q x { s with heap := h' }) : wpAny (model prog w) A (Builtin.SmallTypes.nextOf (.ref it)) Q E s := by
  obtain ⟨o, ho, hc, hd⟩ := id hit
  obtain ⟨ol, hol, _, nl, hdl⟩ := ht
  unfold Builtin.SmallTypes.nextOf
  refine wpAny_bind (wpAny_callSpecial?_slot (name := Str.ofString "__next__") hit.typeIs PySem.F.slot_tuple_iterator_next
    (wpAny_call_entry PySem.F.slot_tuple_iterator_next hit.typeIs PySem.F.entry_tuple_iterator_next ?_ (PySem.F.args_tuple_iterator_next_1 _)))
  show wpAny _ _ (field (.ref it) 0 >>= _) _ _ s
  refine wpAny_bind (wpAny_field ho hd (x := .ref t) rfl ?_)
  show wpAny _ _ (if (Value.ref t == Value.none) = true then _ else _) _ _ s
  rw [if_neg (show ¬ ((Value.ref t == Value.none) = true) from Bool.false_ne_true)]
  show wpAny _ _ (field (.ref it) 1 >>= _) _ _ s
  refine wpAny_bind (wpAny_field ho hd (x := .int i 0) rfl ?_)
  show wpAny _ _ (seqItems? (.ref t) >>= _) _ _ s
  refine wpAny_bind (wpAny_seqItems hol hdl ?_)
  simp only [Int.toNat_natCast, hx]
  refine wpAny_bind (wpAny_setField ho hd (by simp) (wpAny_pure ⟨x, rfl, wpAny_pure (hQ _ ?_ (Heap.SameBut.update ..))⟩))
  exact ⟨_, Heap.get?_update_self _ ho (Obj.isFreed_of_fields (Obj.data_mapFields hd _)), (Obj.cls_mapFields ..).trans hc, by
    rw [Obj.data_mapFields hd]; simp [rawInt]⟩
theorem next_tuple_end {it t : Addr} {i : Nat} {items : Array Value} {Q : Value -> Shared -> Prop} (hh : A.handled = none) (hit : s.heap.IsTupleIter it t i) (ht : s.heap.IsTuple t items) (hx : items[i]? = none)
    (hE : ∀ h' e, Heap.ExtBut it s.heap h' -> (∃ o, h'.get? e = some o /\ o.cls = .type "StopIteration") -> E (.ref e) { s with heap := h' }) : wpAny (model prog w) A (Builtin.SmallTypes.nextOf (.ref it)) Q E s := by
  obtain ⟨o, ho, hc, hd⟩ := id hit
  obtain ⟨ol, hol, _, nl, hdl⟩ := ht
  unfold Builtin.SmallTypes.nextOf
  refine wpAny_bind (wpAny_callSpecial?_slot (name := Str.ofString "__next__") hit.typeIs PySem.F.slot_tuple_iterator_next
    (wpAny_call_entry PySem.F.slot_tuple_iterator_next hit.typeIs PySem.F.entry_tuple_iterator_next ?_ (PySem.F.args_tuple_iterator_next_1 _)))
  show wpAny _ _ (field (.ref it) 0 >>= _) _ _ s
  refine wpAny_bind (wpAny_field ho hd (x := .ref t) rfl ?_)
  show wpAny _ _ (if (Value.ref t == Value.none) = true then _ else _) _ _ s
  rw [if_neg (show ¬ ((Value.ref t == Value.none) = true) from Bool.false_ne_true)]
  show wpAny _ _ (field (.ref it) 1 >>= _) _ _ s
  refine wpAny_bind (wpAny_field ho hd (x := .int i 0) rfl ?_)
  show wpAny _ _ (seqItems? (.ref t) >>= _) _ _ s
  refine wpAny_bind (wpAny_seqItems hol hdl ?_)
  simp only [Int.toNat_natCast, hx]
  refine wpAny_bind (wpAny_rule (wpAny_bind (wpAny_setField ho hd (by simp) ?_)))
  show wpAny _ _ (newExc (.type "StopIteration") [] >>= _) _ _ _
  refine wpAny_bind ?_
  simp only [newExc, newTuple]
  refine wpAny_bind (wpAny_newObj_type ?_ (by size_fits))
  refine wpAny_bind (m := firstArgMember _ _) (wpAny_of_eq (a := Value.none) (by first | rfl | (simp only [firstArgMember]; rfl)) ?_)
  refine wpAny_newObj_type ?_ (by size_fits)
  unfold raiseNew
  refine wpAny_bind (wpAny_handled ?_)
  first | rw [show A.in1.handled = none from hh] | rw [hh]
  refine wpAny_bind (wpAny_pure (wpAny_throw ?_))
  exact hE _ _ (((Heap.SameBut.update ..).extBut.push _).push _) ⟨_, Heap.get?_push_size _ rfl, rfl⟩
end
theorem draws {prog : Program} {w : World} {A : Around} (hh : A.handled = none) (it t : Addr) (hne : t ≠ it) (items : Array Value) :
    Draws prog w A it [it, t] items.size (fun i v => items[i]? = some v) (fun i h => h.IsTupleIter it t i /\ h.IsTuple t items) where
  live := fun _ _ st => let ⟨o, ho, _⟩ := st.1; ⟨o, ho⟩
  frame := fun _ _ _ st hk => ⟨let ⟨o, ho, r⟩ := st.1; ⟨o, hk it (by simp) o ho, r⟩, let ⟨o, ho, r⟩ := st.2; ⟨o, hk t (by simp) o ho, r⟩⟩
  item := fun i s Q E hi st hQ => by
    refine next_tuple st.1 st.2 (x := items[i]) (by simp [hi]) fun h' hit' hs' => ?_
    exact hQ _ h' s.toks (by simp [hi]) ⟨hit', st.2.extBut hs'.extBut hne⟩ hs'
  done := fun s Q E st hE => next_tuple_end hh st.1 st.2 (by simp) hE
theorem enum_new (t : Addr) (items : Array Value) (n : Nat) (dct : Option Addr) (sl : Array (Option Value)) :
    Meets (Builtin.«enumerate.__new__» ⟨[.type "enumerate", .ref t], []⟩) (fun _ R s => s.heap.get? t = some { cls := .type "tuple", dict := dct, data := .seq items n, slots := sl } /\
      R (.ok (.ret (.ref (s.heap.push { cls := .type "tuple_iterator", data := .fields #[.ref t, .int 0 0] }).objs.size)))
        { s with heap := (s.heap.push { cls := .type "tuple_iterator", data := .fields #[.ref t, .int 0 0] }).push { cls := .type "enumerate", data := .fields #[.none, .bool false, .ref s.heap.objs.size, rawInt 0, .none, .none] } }) :=
  .of_wp fun prog w A R s h => by
    obtain ⟨hp, g, d, tk, os⟩ := s; obtain ⟨hl, h⟩ := h
    have hsub := sub_enumerate
    have hL : Heap.IsTuple (Shared.heap ⟨hp, g, d, tk, os⟩) t items := ⟨_, hl, rfl, n, rfl⟩
    wp_walk using wpAny_loadPart' hl
    refine wpAny_stack_any fun st => wpAny_pure ?_
    split
    · rename_i c _ _ _ _ _
      cases (c == Value.type "enumerate")
      · wp_walk using wpAny_loadPart' hl, wpAny_pyIter_tuple hL
        exact ⟨_, rfl, h⟩
      · wp_walk using wpAny_loadPart' hl, wpAny_pyIter_tuple hL
        exact ⟨_, rfl, h⟩
    · wp_walk using wpAny_loadPart' hl, wpAny_pyIter_tuple hL
      exact ⟨_, rfl, h⟩
theorem call_enum {prog : Program} {w : World} {A : Around} {E : Value -> Shared -> Prop} {s : Shared} {t : Addr} {items : Array Value} {Q : Value -> Shared -> Prop} (hL : s.heap.IsTuple t items)
    (h : ∀ h', IsEnum h' (s.heap.objs.size + 1) s.heap.objs.size 0 .none -> h'.IsTupleIter s.heap.objs.size t 0 -> h'.objs.size = s.heap.objs.size + 2 ->
      (∀ b o, s.heap.get? b = some o -> h'.get? b = some o) -> Q (.ref (s.heap.objs.size + 1)) { s with heap := h' }) :
    wpAny (model prog w) A (call (.type "enumerate") [.ref t]) Q E s := by
  obtain ⟨⟨c, dct, dt, sl⟩, hl, hc, n, hd⟩ := hL
  replace hc : c = .type "tuple" := hc
  replace hd : dt = .seq items n := hd
  subst hc hd
  refine callType_new PySem.F.called_enumerate (by decide) (PySem.F.typeCall_enumerate_1 _) (PySem.F.newCall_enumerate_1 _) (fun obj => PySem.F.args_object_init_2 obj _) PySem.F.entry_enumerate_new
    (enum_new t items n dct sl) ⟨hl, ?_⟩
  have hz : (s.heap.push { cls := .type "tuple_iterator", data := .fields #[.ref t, .int 0 0] }).objs.size = s.heap.objs.size + 1 := Heap.size_push ..
  show _ /\ _
  rw [hz]
  have he : IsEnum ((s.heap.push { cls := .type "tuple_iterator", data := .fields #[.ref t, .int 0 0] }).push
      { cls := .type "enumerate", data := .fields #[.none, .bool false, .ref s.heap.objs.size, rawInt 0, .none, .none] }) (s.heap.objs.size + 1) s.heap.objs.size 0 .none := by
    have := Heap.get?_push_size (s.heap.push { cls := .type "tuple_iterator", data := .fields #[.ref t, .int 0 0] })
      (o := { cls := .type "enumerate", data := .fields #[.none, .bool false, .ref s.heap.objs.size, rawInt 0, .none, .none] }) rfl
    rw [hz] at this; exact this
  refine ⟨⟨_, he, rfl⟩, h _ he ⟨_, Heap.get?_push_of_some _ (Heap.get?_push_size _ rfl), rfl, rfl⟩ (by rw [Heap.size_push, hz]) fun b o x => Heap.get?_push_of_some _ (Heap.get?_push_of_some _ x)⟩
theorem enum_end {prog : Program} {w : World} {A : Around} {E : Value -> Shared -> Prop} {s : Shared} {e it t : Addr} {i : Nat} {items : Array Value} {old : Value} {Q : Option Value -> Shared -> Prop} (hh : A.handled = none)
    (he : IsEnum s.heap e it i old) (hit : s.heap.IsTupleIter it t i) (ht : s.heap.IsTuple t items) (hx : items[i]? = none)
    (hQ : ∀ h', Heap.ExtBut it s.heap h' -> Q none { s with heap := h' }) : wpAny (model prog w) A (pyNext (.ref e)) Q E s := by
  have hT : s.TypeIs (.ref e) "enumerate" := ⟨_, he, rfl⟩
  unfold pyNext
  refine wpAny_bind (wpAny_attempt (wpAny_callSpecial?_slot (name := Str.ofString "__next__") hT PySem.F.slot_enumerate_next
    (wpAny_call_entry PySem.F.slot_enumerate_next hT PySem.F.entry_enumerate_next ?_ (PySem.F.args_enumerate_next_1 _))))
  show wpAny _ _ (field (.ref e) 2 >>= _) _ _ _
  refine wpAny_bind (wpAny_field he rfl (x := .ref it) rfl ?_)
  refine wpAny_bind (next_tuple_end hh hit ht hx fun h' x he' hx' => ?_)
  obtain ⟨o, ho, hc⟩ := hx'
  refine wpAny_bind (wpAny_isInstance (T := "StopIteration") (b := true) ⟨o, ho, hc⟩ isSubtype_stop ?_)
  exact wpAny_pure (hQ _ he')
end Dt
namespace L2
open PySem PySem.Spec PyProof.Rows
theorem op_neT0 {X : Cx} {K : PySem.W.Frag} (hK : X.K = K) (hu : X.A.units < cLine) : OpR X (compareOp .NotEq) (fun x y H Q => ∃ p q xs, x = .ref p /\ y = .ref q /\ SqT K H p xs /\ SqT K H q [] /\ Q (.bl (!xs.isEmpty)) H) := by
  subst hK
  intro pins s σ H x y v u Q I rx ry h
  obtain ⟨p, q, xs, rfl, rfl, hx, hy, hq⟩ := h
  cases rx
  cases ry
  obtain ⟨its, r, pl, hz⟩ := I.tuple hx
  obtain ⟨its2, r2, pl2, hz2⟩ := I.tuple hy
  cases r2
  refine SeqAt.RcNeAt.tuples (e := fun _ => true) (show s.heap.IsTuple p its.toArray from pl) (show s.heap.IsTuple q #[] from pl2) hu (fun j h1 h2 => absurd h2 (Nat.not_lt_zero j)) _ _ _ _ ?_
  have e : (!((List.range (min its.toArray.size (#[] : Array Value).size)).all (fun _ => true) && its.toArray.size == (#[] : Array Value).size)) = !xs.isEmpty := by
    cases r with
    | nil => rfl
    | cons a b => rfl
  rw [e]
  exact ⟨.bl _, H, I, rfl, hq⟩
theorem op_eqT0 {X : Cx} {K : PySem.W.Frag} (hK : X.K = K) (hu : X.A.units < cLine) : OpR X (compareOp .Eq) (fun x y H Q => ∃ p q xs, x = .ref p /\ y = .ref q /\ SqT K H p xs /\ SqT K H q [] /\ Q (.bl xs.isEmpty) H) := by
  subst hK
  intro pins s σ H x y v u Q I rx ry h
  obtain ⟨p, q, xs, rfl, rfl, hx, hy, hq⟩ := h
  cases rx
  cases ry
  obtain ⟨its, r, pl, hz⟩ := I.tuple hx
  obtain ⟨its2, r2, pl2, hz2⟩ := I.tuple hy
  cases r2
  refine SeqAt.eq_tupleAt (e := fun _ => true) (show s.heap.IsTuple p its.toArray from pl) (show s.heap.IsTuple q #[] from pl2) hu (fun j h1 h2 => absurd h2 (Nat.not_lt_zero j)) ?_
  have e : ((List.range (min its.toArray.size (#[] : Array Value).size)).all (fun _ => true) && its.toArray.size == (#[] : Array Value).size) = xs.isEmpty := by
    cases r with
    | nil => rfl
    | cons a b => rfl
  rw [e]
  exact ⟨.bl _, H, I, rfl, hq⟩
end L2
set_option Elab.async false
set_option linter.all false
set_option maxRecDepth 100000
set_option maxHeartbeats 4000000
namespace L2
open PySem PySem.Spec PyProof.Rows
def hid (D : Addr) (H : Hp) : Hp := fun b => if b = D then none else H b
theorem hid_ne {D b : Addr} {H : Hp} (h : b ≠ D) : hid D H b = H b := by unfold hid; rw [if_neg h]
theorem hid_at {D : Addr} {H : Hp} : hid D H D = none := by unfold hid; rw [if_pos rfl]
section
variable {K : PySem.W.Frag} {a : Addr} {xs : List V} {H1 : Hp}
end
theorem ix_listK {X : Cx} {K : PySem.W.Frag} (hK : X.K = K) : IxR X (rIxL K) := hK ▸ ix_list
end L2
set_option Elab.async false
set_option linter.all false
set_option maxRecDepth 100000
set_option maxHeartbeats 4000000
namespace Dt
open PySem PySem.Spec PyProof.Rows
def ItK (k : Bool) (h : Heap) (it a : Addr) (i : Nat) : Prop := match k with | true => h.IsTupleIter it a i | false => h.IsListIter it a i
def RawK (k : Bool) (h : Heap) (a : Addr) (items : Array Value) : Prop := match k with | true => h.IsTuple a items | false => h.IsList a items
def itn (k : Bool) : String := match k with | true => "tuple_iterator" | false => "list_iterator"
theorem ItK.mk {k : Bool} {h : Heap} {it a : Addr} {i : Nat} (e : h.get? it = some { cls := .type (itn k), data := .fields #[.ref a, .int i 0] }) : ItK k h it a i := by
  cases k
  · exact ⟨_, e, rfl, rfl⟩
  · exact ⟨_, e, rfl, rfl⟩
theorem ItK.to {k : Bool} {h h' : Heap} {it a : Addr} {i : Nat} (x : ItK k h it a i) (f : ∀ o, h.get? it = some o -> h'.get? it = some o) : ItK k h' it a i := by
  cases k
  · obtain ⟨o, e, r⟩ := x; exact ⟨o, f o e, r⟩
  · obtain ⟨o, e, r⟩ := x; exact ⟨o, f o e, r⟩
theorem RawK.to {k : Bool} {h h' : Heap} {a : Addr} {items : Array Value} (x : RawK k h a items) (f : ∀ o, h.get? a = some o -> h'.get? a = some o) : RawK k h' a items := by
  cases k
  · obtain ⟨o, e, r⟩ := x; exact ⟨o, f o e, r⟩
  · obtain ⟨o, e, r⟩ := x; exact ⟨o, f o e, r⟩
theorem ItK.obj {k : Bool} {h : Heap} {it a : Addr} {i : Nat} (x : ItK k h it a i) : ∃ o, h.get? it = some o /\ ∀ v, o.data ≠ .cell v := by
  cases k
  · obtain ⟨o, e, c, d⟩ := x; exact ⟨o, e, fun v z => by rw [d] at z; cases z⟩
  · obtain ⟨o, e, c, d⟩ := x; exact ⟨o, e, fun v z => by rw [d] at z; cases z⟩
theorem RawK.lt {k : Bool} {h : Heap} {a : Addr} {items : Array Value} (x : RawK k h a items) : a < h.objs.size := by
  cases k
  · obtain ⟨o, e, r⟩ := x; exact Heap.lt_size e
  · obtain ⟨o, e, r⟩ := x; exact Heap.lt_size e
section
variable {prog : Program} {w : World} {A : Around} {E : Value -> Shared -> Prop} {s : Shared}
theorem next_k {k : Bool} {it a : Addr} {i : Nat} {items : Array Value} {x : Value} {Q : Value -> Shared -> Prop} (hit : ItK k s.heap it a i) (ht : RawK k s.heap a items) (hx : items[i]? = some x)
    (hQ : ∀ h', ItK k h' it a (i + 1) -> Heap.SameBut it s.heap h' -> Q x { s with heap := h' }) : wpAny (model prog w) A (Builtin.SmallTypes.nextOf (.ref it)) Q E s := by
  cases k
  · exact wpAny_nextOf_list_item hit ht hx hQ
  · exact next_tuple hit ht hx hQ
theorem next_k_end {k : Bool} {it a : Addr} {i : Nat} {items : Array Value} {Q : Value -> Shared -> Prop} (hh : A.handled = none) (hit : ItK k s.heap it a i) (ht : RawK k s.heap a items) (hx : items[i]? = none)
    (hE : ∀ h' e, Heap.ExtBut it s.heap h' -> (∃ o, h'.get? e = some o /\ o.cls = .type "StopIteration") -> E (.ref e) { s with heap := h' }) : wpAny (model prog w) A (Builtin.SmallTypes.nextOf (.ref it)) Q E s := by
  cases k
  · exact wpAny_nextOf_list_end hh hit ht hx hE
  · exact next_tuple_end hh hit ht hx hE
theorem zip_item {k1 k2 : Bool} {z TI TO i1 i2 l1 l2 : Addr} {n1 n2 : Nat} {xs ys : Array Value} {x y a b : Value} {Q : Value -> Shared -> Prop} (D : ZipApart z TI TO i1 i2 l1 l2)
    (hz : IsZip s.heap z TI TO .none) (hTI : IsPair s.heap TI (.ref i1) (.ref i2)) (hTO : IsPair s.heap TO a b)
    (h1 : ItK k1 s.heap i1 l1 n1) (h2 : ItK k2 s.heap i2 l2 n2) (hl1 : RawK k1 s.heap l1 xs) (hl2 : RawK k2 s.heap l2 ys) (hx : xs[n1]? = some x) (hy : ys[n2]? = some y)
    (hQ : ∀ h', IsZip h' z TI TO (rawInt s.heap.objs.size) -> IsPair h' TO x y -> ItK k1 h' i1 l1 (n1 + 1) -> ItK k2 h' i2 l2 (n2 + 1) -> IsPair h' s.heap.objs.size x y -> h'.objs.size = s.heap.objs.size + 1 ->
      (∀ c o, c ≠ z -> c ≠ TO -> c ≠ i1 -> c ≠ i2 -> s.heap.get? c = some o -> h'.get? c = some o) -> Q (.ref s.heap.objs.size) { s with heap := h' }) :
    wpAny (model prog w) A (Builtin.«zip.__next__» ⟨[.ref z], []⟩) (fun fin s' => ∃ v, fin = .done (.ret v) /\ Q v s') E s := by
  show wpAny _ _ (field (.ref z) 2 >>= _) _ _ _
  refine wpAny_bind (wpAny_field hz rfl (x := .bool false) rfl ?_)
  show wpAny _ _ (field (.ref z) 3 >>= _) _ _ _
  refine wpAny_bind (wpAny_field hz rfl (x := .ref TI) rfl ?_)
  refine wpAny_bind (wpAny_seqItems hTI rfl ?_)
  show wpAny _ _ (Builtin.SmallTypes.ownedTupleIsFree (.ref z) >>= _) _ _ _
  refine wpAny_bind ?_
  unfold Builtin.SmallTypes.ownedTupleIsFree
  refine wpAny_bind (wpAny_field hz rfl (x := .none) rfl (wpAny_pure ?_))
  simp only [if_true]
  refine wpAny_bind (wpAny_rule ?_)
  refine wpAny_bind (wpAny_field hz rfl (x := .ref TO) rfl ?_)
  refine wpAny_bind (wpAny_setField_rec hz (by simp) fun h₁ hz₁ hs₁ => ?_)
  replace hz₁ : IsZip h₁ z TI TO .ellipsis := hz₁
  have m₁ : ∀ c o, c ≠ z -> s.heap.get? c = some o -> h₁.get? c = some o := fun c o n e => hs₁.extBut _ _ n e
  refine wpAny_bind ?_
  simp only [List.zipIdx_cons, List.zipIdx_nil, List.forIn_cons, List.forIn_nil]
  refine wpAny_bind (wpAny_bind (wpAny_onRaise ?_))
  show wpAny _ _ (Builtin.SmallTypes.nextOf (.ref i1) >>= _) _ _ _
  refine wpAny_bind (next_k (h1.to fun o => m₁ _ o D.i1z) (hl1.to fun o => m₁ _ o D.l1z) hx fun h₂ h1₂ hs₂ => wpAny_pure ?_)
  have m₂ : ∀ c o, c ≠ z -> c ≠ i1 -> s.heap.get? c = some o -> h₂.get? c = some o := fun c o n n' e => hs₂.extBut _ _ n' (m₁ c o n e)
  have hTO₂ : IsPair h₂ TO a b := m₂ _ _ D.TOz D.TOi1 hTO
  refine wpAny_bind (wpAny_seqItems hTO₂ rfl ?_)
  refine wpAny_bind (wpAny_updateSeq_pair hTO₂ fun h₃ hTO₃ hs₃ => ?_)
  replace hTO₃ : IsPair h₃ TO x b := hTO₃
  have m₃ : ∀ c o, c ≠ z -> c ≠ i1 -> c ≠ TO -> s.heap.get? c = some o -> h₃.get? c = some o := fun c o n n' n'' e => hs₃.extBut _ _ n'' (m₂ c o n n' e)
  refine wpAny_bind (wpAny_letGo (wpAny_pure ?_))
  refine wpAny_bind (wpAny_bind (wpAny_onRaise ?_))
  show wpAny _ _ (Builtin.SmallTypes.nextOf (.ref i2) >>= _) _ _ _
  refine wpAny_bind (next_k (h2.to fun o => m₃ _ o D.i2z D.i12.symm D.TOi2.symm) (hl2.to fun o => m₃ _ o D.l2z D.l2i1 D.l2TO) hy fun h₄ h2₄ hs₄ => wpAny_pure ?_)
  have hTO₄ : IsPair h₄ TO x b := hs₄.extBut _ _ D.TOi2 hTO₃
  refine wpAny_bind (wpAny_seqItems hTO₄ rfl ?_)
  refine wpAny_bind (wpAny_updateSeq_pair hTO₄ fun h₅ hTO₅ hs₅ => ?_)
  replace hTO₅ : IsPair h₅ TO x y := hTO₅
  refine wpAny_bind (wpAny_letGo (wpAny_pure (wpAny_pure ?_)))
  refine wpAny_bind (wpAny_seqItems hTO₅ rfl ?_)
  refine wpAny_bind (wpAny_newTuple ?_)
  have hsz : h₅.objs.size = s.heap.objs.size := by rw [hs₅.1, hs₄.1, hs₃.1, hs₂.1, hs₁.1]
  have hz₅ : IsZip h₅ z TI TO .ellipsis := hs₅.extBut _ _ D.TOz.symm (hs₄.extBut _ _ D.i2z.symm (hs₃.extBut _ _ D.TOz.symm (hs₂.extBut _ _ D.i1z.symm hz₁)))
  have hk₅ : ∀ c o, c ≠ z -> c ≠ TO -> c ≠ i1 -> c ≠ i2 -> s.heap.get? c = some o -> h₅.get? c = some o := fun c o c1 c2 c3 c4 e => hs₅.extBut _ _ c2 (hs₄.extBut _ _ c4 (m₃ c o c1 c3 c2 e))
  have h1₅ : ItK k1 h₅ i1 l1 (n1 + 1) := h1₂.to fun o e => hs₅.extBut _ _ D.TOi1.symm (hs₄.extBut _ _ D.i12 (hs₃.extBut _ _ D.TOi1.symm e))
  have h2₅ : ItK k2 h₅ i2 l2 (n2 + 1) := h2₄.to fun o e => hs₅.extBut _ _ D.TOi2.symm e
  have hzlt : z < h₅.objs.size := Heap.lt_size hz₅
  show wpAny _ _ (Builtin.SmallTypes.ownedTupleHandOut (.ref z) (.ref h₅.objs.size) >>= _) _ _ _
  refine wpAny_bind ?_
  unfold Builtin.SmallTypes.ownedTupleHandOut
  have hz₆ : IsZip (h₅.push { cls := .type "tuple", data := .seq #[x, y] }) z TI TO .ellipsis := Heap.get?_push_of_some _ hz₅
  refine wpAny_bind (wpAny_setField_rec hz₆ (by simp) fun h₇ hz₇ hs₇ => ?_)
  replace hz₇ : IsZip h₇ z TI TO (rawInt h₅.objs.size) := hz₇
  refine wpAny_setField_rec hz₇ (by simp) fun h₈ hz₈ hs₈ => ?_
  replace hz₈ : IsZip h₈ z TI TO (rawInt h₅.objs.size) := hz₈
  have up : ∀ c o, c ≠ z -> h₅.get? c = some o -> h₈.get? c = some o := fun c o c1 e => hs₈.extBut _ _ c1 (hs₇.extBut _ _ c1 (Heap.get?_push_of_some _ e))
  have hT₈ : IsPair h₈ h₅.objs.size x y := hs₈.extBut _ _ (Nat.ne_of_gt hzlt) (hs₇.extBut _ _ (Nat.ne_of_gt hzlt) (Heap.get?_push_size _ rfl))
  have hz8 : h₈.objs.size = h₅.objs.size + 1 := by rw [hs₈.1, hs₇.1, Heap.size_push]
  rw [hsz] at hz₈ hT₈ hz8
  refine wpAny_pure ⟨_, rfl, ?_⟩
  show Q (.ref h₅.objs.size) _
  rw [hsz]
  exact hQ h₈ hz₈ (up _ _ D.TOz hTO₅) (h1₅.to fun o e => up _ o D.i1z e) (h2₅.to fun o e => up _ o D.i2z e) hT₈ hz8 fun c o c1 c2 c3 c4 e => up c o c1 (hk₅ c o c1 c2 c3 c4 e)
theorem zip_end {k1 k2 : Bool} {z TI TO i1 i2 l1 l2 : Addr} {n1 n2 : Nat} {xs ys : Array Value} {a b : Value} {Q : Fin -> Shared -> Prop} (hh : A.handled = none) (D : ZipApart z TI TO i1 i2 l1 l2)
    (hz : IsZip s.heap z TI TO .none) (hTI : IsPair s.heap TI (.ref i1) (.ref i2)) (hTO : IsPair s.heap TO a b)
    (h1 : ItK k1 s.heap i1 l1 n1) (h2 : ItK k2 s.heap i2 l2 n2) (hl1 : RawK k1 s.heap l1 xs) (hl2 : RawK k2 s.heap l2 ys) (hend : xs[n1]? = none ∨ ys[n2]? = none)
    (hE : ∀ h' e, (∀ c o, c ≠ z -> c ≠ TO -> c ≠ i1 -> c ≠ i2 -> s.heap.get? c = some o -> h'.get? c = some o) -> (∃ o, h'.get? e = some o /\ o.cls = .type "StopIteration") -> E (.ref e) { s with heap := h' }) :
    wpAny (model prog w) A (Builtin.«zip.__next__» ⟨[.ref z], []⟩) Q E s := by
  show wpAny _ _ (field (.ref z) 2 >>= _) _ _ _
  refine wpAny_bind (wpAny_field hz rfl (x := .bool false) rfl ?_)
  show wpAny _ _ (field (.ref z) 3 >>= _) _ _ _
  refine wpAny_bind (wpAny_field hz rfl (x := .ref TI) rfl ?_)
  refine wpAny_bind (wpAny_seqItems hTI rfl ?_)
  show wpAny _ _ (Builtin.SmallTypes.ownedTupleIsFree (.ref z) >>= _) _ _ _
  refine wpAny_bind ?_
  unfold Builtin.SmallTypes.ownedTupleIsFree
  refine wpAny_bind (wpAny_field hz rfl (x := .none) rfl (wpAny_pure ?_))
  simp only [if_true]
  refine wpAny_bind (wpAny_rule ?_)
  refine wpAny_bind (wpAny_field hz rfl (x := .ref TO) rfl ?_)
  refine wpAny_bind (wpAny_setField_rec hz (by simp) fun h₁ hz₁ hs₁ => ?_)
  replace hz₁ : IsZip h₁ z TI TO .ellipsis := hz₁
  have m₁ : ∀ c o, c ≠ z -> s.heap.get? c = some o -> h₁.get? c = some o := fun c o n e => hs₁.extBut _ _ n e
  refine wpAny_bind ?_
  simp only [List.zipIdx_cons, List.zipIdx_nil, List.forIn_cons, List.forIn_nil]
  refine wpAny_bind (wpAny_bind (wpAny_onRaise ?_))
  show wpAny _ _ (Builtin.SmallTypes.nextOf (.ref i1) >>= _) _ _ _
  cases hx : xs[n1]? with
  | none =>
    refine wpAny_bind (next_k_end hh (h1.to fun o => m₁ _ o D.i1z) (hl1.to fun o => m₁ _ o D.l1z) hx fun h₂ e hs₂ he => ?_)
    obtain ⟨oe, hoe, hce⟩ := he
    have hz₂ : IsZip h₂ z TI TO .ellipsis := hs₂ _ _ D.i1z.symm hz₁
    have hez : e ≠ z := fun x => by subst x; rw [hz₂] at hoe; cases hoe; simp at hce
    refine wpAny_setField_rec hz₂ (by simp) fun h₃ _ hs₃ => hE h₃ e (fun c o c1 _ c3 _ x => hs₃.extBut _ _ c1 (hs₂ _ _ c3 (m₁ c o c1 x))) ⟨oe, hs₃.extBut _ _ hez hoe, hce⟩
  | some x =>
    have hy : ys[n2]? = none := by rcases hend with h | h; rw [hx] at h; cases h; exact h
    refine wpAny_bind (next_k (h1.to fun o => m₁ _ o D.i1z) (hl1.to fun o => m₁ _ o D.l1z) hx fun h₂ h1₂ hs₂ => wpAny_pure ?_)
    have m₂ : ∀ c o, c ≠ z -> c ≠ i1 -> s.heap.get? c = some o -> h₂.get? c = some o := fun c o n n' e => hs₂.extBut _ _ n' (m₁ c o n e)
    have hTO₂ : IsPair h₂ TO a b := m₂ _ _ D.TOz D.TOi1 hTO
    refine wpAny_bind (wpAny_seqItems hTO₂ rfl ?_)
    refine wpAny_bind (wpAny_updateSeq_pair hTO₂ fun h₃ hTO₃ hs₃ => ?_)
    have m₃ : ∀ c o, c ≠ z -> c ≠ i1 -> c ≠ TO -> s.heap.get? c = some o -> h₃.get? c = some o := fun c o n n' n'' e => hs₃.extBut _ _ n'' (m₂ c o n n' e)
    refine wpAny_bind (wpAny_letGo (wpAny_pure ?_))
    refine wpAny_bind (wpAny_bind (wpAny_onRaise ?_))
    show wpAny _ _ (Builtin.SmallTypes.nextOf (.ref i2) >>= _) _ _ _
    refine wpAny_bind (next_k_end hh (h2.to fun o => m₃ _ o D.i2z D.i12.symm D.TOi2.symm) (hl2.to fun o => m₃ _ o D.l2z D.l2i1 D.l2TO) hy fun h₄ e hs₄ he => ?_)
    obtain ⟨oe, hoe, hce⟩ := he
    have hz₄ : IsZip h₄ z TI TO .ellipsis := hs₄ _ _ D.i2z.symm (hs₃.extBut _ _ D.TOz.symm (hs₂.extBut _ _ D.i1z.symm hz₁))
    have hez : e ≠ z := fun x => by subst x; rw [hz₄] at hoe; cases hoe; simp at hce
    refine wpAny_setField_rec hz₄ (by simp) fun h₅ _ hs₅ => hE h₅ e (fun c o c1 c2 c3 c4 x => hs₅.extBut _ _ c1 (hs₄ _ _ c4 (m₃ c o c1 c3 c2 x))) ⟨oe, hs₅.extBut _ _ hez hoe, hce⟩
theorem pyNext_zip {k1 k2 : Bool} {z TI TO i1 i2 l1 l2 : Addr} {n1 n2 : Nat} {xs ys : Array Value} {x y a b : Value} {Q : Option Value -> Shared -> Prop} (D : ZipApart z TI TO i1 i2 l1 l2)
    (hz : IsZip s.heap z TI TO .none) (hTI : IsPair s.heap TI (.ref i1) (.ref i2)) (hTO : IsPair s.heap TO a b)
    (h1 : ItK k1 s.heap i1 l1 n1) (h2 : ItK k2 s.heap i2 l2 n2) (hl1 : RawK k1 s.heap l1 xs) (hl2 : RawK k2 s.heap l2 ys) (hx : xs[n1]? = some x) (hy : ys[n2]? = some y)
    (hQ : ∀ h', IsZip h' z TI TO (rawInt s.heap.objs.size) -> IsPair h' TO x y -> ItK k1 h' i1 l1 (n1 + 1) -> ItK k2 h' i2 l2 (n2 + 1) -> IsPair h' s.heap.objs.size x y -> h'.objs.size = s.heap.objs.size + 1 ->
      (∀ c o, c ≠ z -> c ≠ TO -> c ≠ i1 -> c ≠ i2 -> s.heap.get? c = some o -> h'.get? c = some o) -> Q (some (.ref s.heap.objs.size)) { s with heap := h' }) :
    wpAny (model prog w) A (pyNext (.ref z)) Q E s := by
  have hT : s.TypeIs (.ref z) "zip" := ⟨_, hz, rfl⟩
  unfold pyNext
  exact wpAny_bind (wpAny_attempt (wpAny_callSpecial?_slot (name := Str.ofString "__next__") hT PySem.F.slot_zip_next
    (wpAny_call_entry PySem.F.slot_zip_next hT PySem.F.entry_zip_next
      (zip_item D hz hTI hTO h1 h2 hl1 hl2 hx hy fun h' a1 a2 a3 a4 a5 a6 a7 => wpAny_pure (hQ h' a1 a2 a3 a4 a5 a6 a7)) (PySem.F.args_zip_next_1 _))))
theorem pyNext_zip_end {k1 k2 : Bool} {z TI TO i1 i2 l1 l2 : Addr} {n1 n2 : Nat} {xs ys : Array Value} {a b : Value} {Q : Option Value -> Shared -> Prop} (hh : A.handled = none) (D : ZipApart z TI TO i1 i2 l1 l2)
    (hz : IsZip s.heap z TI TO .none) (hTI : IsPair s.heap TI (.ref i1) (.ref i2)) (hTO : IsPair s.heap TO a b)
    (h1 : ItK k1 s.heap i1 l1 n1) (h2 : ItK k2 s.heap i2 l2 n2) (hl1 : RawK k1 s.heap l1 xs) (hl2 : RawK k2 s.heap l2 ys) (hend : xs[n1]? = none ∨ ys[n2]? = none)
    (hQ : ∀ h', (∀ c o, c ≠ z -> c ≠ TO -> c ≠ i1 -> c ≠ i2 -> s.heap.get? c = some o -> h'.get? c = some o) -> Q none { s with heap := h' }) : wpAny (model prog w) A (pyNext (.ref z)) Q E s := by
  have hT : s.TypeIs (.ref z) "zip" := ⟨_, hz, rfl⟩
  unfold pyNext
  refine wpAny_bind (wpAny_attempt (wpAny_callSpecial?_slot (name := Str.ofString "__next__") hT PySem.F.slot_zip_next
    (wpAny_call_entry PySem.F.slot_zip_next hT PySem.F.entry_zip_next (zip_end hh D hz hTI hTO h1 h2 hl1 hl2 hend fun h' e hk he => ?_) (PySem.F.args_zip_next_1 _))))
  obtain ⟨o, ho, hc⟩ := he
  refine wpAny_bind (wpAny_isInstance (T := "StopIteration") (b := true) ⟨o, ho, hc⟩ isSubtype_stop ?_)
  exact wpAny_pure (hQ _ hk)
end
abbrev zH1 (a : String) (h : Heap) (l1 : Addr) : Heap := h.push { cls := .type a, data := .fields #[.ref l1, .int 0 0] }
abbrev zH2 (a b : String) (h : Heap) (l1 l2 : Addr) : Heap := (zH1 a h l1).push { cls := .type b, data := .fields #[.ref l2, .int 0 0] }
abbrev zH3 (a b : String) (h : Heap) (l1 l2 : Addr) : Heap := (zH2 a b h l1 l2).push { cls := .type "tuple", data := .seq #[.ref h.objs.size, .ref (zH1 a h l1).objs.size] }
abbrev zH4 (a b : String) (h : Heap) (l1 l2 : Addr) : Heap := (zH3 a b h l1 l2).push { cls := .type "tuple", data := .seq #[.none, .none] }
abbrev zH5 (a b : String) (h : Heap) (l1 l2 : Addr) : Heap := (zH4 a b h l1 l2).push { cls := .type "zip", data := .fields #[.none, .bool false, .bool false, .ref (zH2 a b h l1 l2).objs.size, .ref (zH3 a b h l1 l2).objs.size] }
theorem zip_newLL (l1 l2 : Addr) (xs ys : Array Value) :
    Meets (Builtin.«zip.__new__» ⟨[.type "zip", .ref l1, .ref l2], []⟩) (fun _ R s => s.heap.IsList l1 xs /\ s.heap.IsList l2 ys /\
      R (.ok (.ret (.ref (zH4 "list_iterator" "list_iterator" s.heap l1 l2).objs.size))) { s with heap := zH5 "list_iterator" "list_iterator" s.heap l1 l2 }) :=
  .of_wp fun prog w A R s h => by
    obtain ⟨hp, g, d, tk, os⟩ := s; obtain ⟨hl1, hl2, h⟩ := h
    have hsub := sub_zip
    have hL1 : Heap.IsList (Shared.heap ⟨hp, g, d, tk, os⟩) l1 xs := hl1
    have hL2 : Heap.IsList (Shared.heap ⟨hp.push { cls := .type "list_iterator", data := .fields #[.ref l1, .int 0 0] }, g, d, tk, os⟩) l2 ys := let ⟨o, e, r⟩ := hl2; ⟨o, Heap.get?_push_of_some _ e, r⟩
    wp_walk using wpAny_pyIter_list hL1, wpAny_pyIter_list hL2
    exact ⟨_, rfl, h⟩
theorem zip_newLT (l1 l2 : Addr) (xs ys : Array Value) :
    Meets (Builtin.«zip.__new__» ⟨[.type "zip", .ref l1, .ref l2], []⟩) (fun _ R s => s.heap.IsList l1 xs /\ s.heap.IsTuple l2 ys /\
      R (.ok (.ret (.ref (zH4 "list_iterator" "tuple_iterator" s.heap l1 l2).objs.size))) { s with heap := zH5 "list_iterator" "tuple_iterator" s.heap l1 l2 }) :=
  .of_wp fun prog w A R s h => by
    obtain ⟨hp, g, d, tk, os⟩ := s; obtain ⟨hl1, hl2, h⟩ := h
    have hsub := sub_zip
    have hL1 : Heap.IsList (Shared.heap ⟨hp, g, d, tk, os⟩) l1 xs := hl1
    have hL2 : Heap.IsTuple (Shared.heap ⟨hp.push { cls := .type "list_iterator", data := .fields #[.ref l1, .int 0 0] }, g, d, tk, os⟩) l2 ys := let ⟨o, e, r⟩ := hl2; ⟨o, Heap.get?_push_of_some _ e, r⟩
    wp_walk using wpAny_pyIter_list hL1, wpAny_pyIter_tuple hL2
    exact ⟨_, rfl, h⟩
theorem zip_newTL (l1 l2 : Addr) (xs ys : Array Value) :
    Meets (Builtin.«zip.__new__» ⟨[.type "zip", .ref l1, .ref l2], []⟩) (fun _ R s => s.heap.IsTuple l1 xs /\ s.heap.IsList l2 ys /\
      R (.ok (.ret (.ref (zH4 "tuple_iterator" "list_iterator" s.heap l1 l2).objs.size))) { s with heap := zH5 "tuple_iterator" "list_iterator" s.heap l1 l2 }) :=
  .of_wp fun prog w A R s h => by
    obtain ⟨hp, g, d, tk, os⟩ := s; obtain ⟨hl1, hl2, h⟩ := h
    have hsub := sub_zip
    have hL1 : Heap.IsTuple (Shared.heap ⟨hp, g, d, tk, os⟩) l1 xs := hl1
    have hL2 : Heap.IsList (Shared.heap ⟨hp.push { cls := .type "tuple_iterator", data := .fields #[.ref l1, .int 0 0] }, g, d, tk, os⟩) l2 ys := let ⟨o, e, r⟩ := hl2; ⟨o, Heap.get?_push_of_some _ e, r⟩
    wp_walk using wpAny_pyIter_tuple hL1, wpAny_pyIter_list hL2
    exact ⟨_, rfl, h⟩
theorem zip_newTT (l1 l2 : Addr) (xs ys : Array Value) :
    Meets (Builtin.«zip.__new__» ⟨[.type "zip", .ref l1, .ref l2], []⟩) (fun _ R s => s.heap.IsTuple l1 xs /\ s.heap.IsTuple l2 ys /\
      R (.ok (.ret (.ref (zH4 "tuple_iterator" "tuple_iterator" s.heap l1 l2).objs.size))) { s with heap := zH5 "tuple_iterator" "tuple_iterator" s.heap l1 l2 }) :=
  .of_wp fun prog w A R s h => by
    obtain ⟨hp, g, d, tk, os⟩ := s; obtain ⟨hl1, hl2, h⟩ := h
    have hsub := sub_zip
    have hL1 : Heap.IsTuple (Shared.heap ⟨hp, g, d, tk, os⟩) l1 xs := hl1
    have hL2 : Heap.IsTuple (Shared.heap ⟨hp.push { cls := .type "tuple_iterator", data := .fields #[.ref l1, .int 0 0] }, g, d, tk, os⟩) l2 ys := let ⟨o, e, r⟩ := hl2; ⟨o, Heap.get?_push_of_some _ e, r⟩
    wp_walk using wpAny_pyIter_tuple hL1, wpAny_pyIter_tuple hL2
    exact ⟨_, rfl, h⟩
theorem zip_newK (k1 k2 : Bool) (l1 l2 : Addr) (xs ys : Array Value) :
    Meets (Builtin.«zip.__new__» ⟨[.type "zip", .ref l1, .ref l2], []⟩) (fun _ R s => RawK k1 s.heap l1 xs /\ RawK k2 s.heap l2 ys /\
      R (.ok (.ret (.ref (zH4 (itn k1) (itn k2) s.heap l1 l2).objs.size))) { s with heap := zH5 (itn k1) (itn k2) s.heap l1 l2 }) := by
  cases k1 <;> cases k2
  · exact zip_newLL l1 l2 xs ys
  · exact zip_newLT l1 l2 xs ys
  · exact zip_newTL l1 l2 xs ys
  · exact zip_newTT l1 l2 xs ys
section
variable {prog : Program} {w : World} {A : Around} {E : Value -> Shared -> Prop} {s : Shared}
theorem call_zip {k1 k2 : Bool} {l1 l2 : Addr} {xs ys : Array Value} {Q : Value -> Shared -> Prop} (hl1 : RawK k1 s.heap l1 xs) (hl2 : RawK k2 s.heap l2 ys)
    (h : ∀ h', IsZip h' (s.heap.objs.size + 4) (s.heap.objs.size + 2) (s.heap.objs.size + 3) .none -> IsPair h' (s.heap.objs.size + 2) (.ref s.heap.objs.size) (.ref (s.heap.objs.size + 1)) ->
      IsPair h' (s.heap.objs.size + 3) .none .none -> ItK k1 h' s.heap.objs.size l1 0 -> ItK k2 h' (s.heap.objs.size + 1) l2 0 -> h'.objs.size = s.heap.objs.size + 5 ->
      (∀ c o, s.heap.get? c = some o -> h'.get? c = some o) -> Q (.ref (s.heap.objs.size + 4)) { s with heap := h' }) :
    wpAny (model prog w) A (call (.type "zip") [.ref l1, .ref l2]) Q E s := by
  refine callType_new PySem.F.called_zip (by decide) (PySem.F.typeCall_zip_2 _ _) (PySem.F.newCall_zip_2 _ _) (fun obj => PySem.F.args_object_init_3 obj _ _) PySem.F.entry_zip_new
    (zip_newK k1 k2 l1 l2 xs ys) ⟨hl1, hl2, ?_⟩
  generalize ea : itn k1 = a
  generalize eb : itn k2 = b
  have z1 : (zH1 a s.heap l1).objs.size = s.heap.objs.size + 1 := Heap.size_push ..
  have z2 : (zH2 a b s.heap l1 l2).objs.size = s.heap.objs.size + 2 := by rw [Heap.size_push, z1]
  have z3 : (zH3 a b s.heap l1 l2).objs.size = s.heap.objs.size + 3 := by rw [Heap.size_push, z2]
  have z4 : (zH4 a b s.heap l1 l2).objs.size = s.heap.objs.size + 4 := by rw [Heap.size_push, z3]
  have z5 : (zH5 a b s.heap l1 l2).objs.size = s.heap.objs.size + 5 := by rw [Heap.size_push, z4]
  have g5 : (zH5 a b s.heap l1 l2).get? (zH4 a b s.heap l1 l2).objs.size = some _ := Heap.get?_push_size _ rfl
  have g4 : (zH5 a b s.heap l1 l2).get? (zH3 a b s.heap l1 l2).objs.size = some _ := Heap.get?_push_of_some _ (Heap.get?_push_size _ rfl)
  have g3 : (zH5 a b s.heap l1 l2).get? (zH2 a b s.heap l1 l2).objs.size = some _ := Heap.get?_push_of_some _ (Heap.get?_push_of_some _ (Heap.get?_push_size _ rfl))
  have g2 : (zH5 a b s.heap l1 l2).get? (zH1 a s.heap l1).objs.size = some _ := Heap.get?_push_of_some _ (Heap.get?_push_of_some _ (Heap.get?_push_of_some _ (Heap.get?_push_size _ rfl)))
  have g1 : (zH5 a b s.heap l1 l2).get? s.heap.objs.size = some _ := Heap.get?_push_of_some _ (Heap.get?_push_of_some _ (Heap.get?_push_of_some _ (Heap.get?_push_of_some _ (Heap.get?_push_size _ rfl))))
  show _ /\ _
  rw [z2, z3, z4] at g5
  rw [z1, z2] at g3
  rw [z3] at g4
  rw [z1] at g2
  rw [z4]
  subst ea eb
  exact ⟨⟨_, g5, rfl⟩, h _ g5 g3 g4 (.mk g1) (.mk g2) z5 fun c o x =>
    Heap.get?_push_of_some _ (Heap.get?_push_of_some _ (Heap.get?_push_of_some _ (Heap.get?_push_of_some _ (Heap.get?_push_of_some _ x))))⟩
end
end Dt
namespace L2
open PySem PySem.Spec PyProof.Rows
theorem bt_zip : bootBuiltins "zip" = some (.type "zip") := by decide +kernel
def SqK (k : Bool) (K : PySem.W.Frag) (H : Hp) (a : Addr) (xs : List V) : Prop := match k with | true => SqT K H a xs | false => SqL K H a xs
theorem Inv.sqK {X : Cx} {pins : List (Addr × Obj)} {σ : St} {H : Hp} {s : Shared} {k : Bool} {a : Addr} {xs : List V} (I : Inv X pins σ H s) (h : SqK k X.K H a xs) : ∃ its : List Value, Vals xs its /\ Dt.RawK k s.heap a its.toArray := by
  cases k
  · obtain ⟨its, r, p, _⟩ := I.list h
    exact ⟨its, r, p.isList⟩
  · obtain ⟨its, r, p, _⟩ := I.tuple h
    exact ⟨its, r, p⟩
theorem Inv.sqK_inj {X : Cx} {pins : List (Addr × Obj)} {σ : St} {H : Hp} {s : Shared} {k : Bool} {a : Addr} {xs ys : List V} (I : Inv X pins σ H s) (h : SqK k X.K H a xs) (h' : SqK k X.K H a ys) : xs = ys := by
  cases k
  · exact I.list_inj h h'
  · exact I.tuple_inj h h'
theorem Same.sqK {k : Bool} {K : PySem.W.Frag} {H H' : Hp} {a : Addr} {xs : List V} (e : Same H H') (h : SqK k K H a xs) : SqK k K H' a xs := by
  cases k
  · exact e.seq h
  · exact e.seqT h
def Itz (K : PySem.W.Frag) (k1 k2 : Bool) (a b : Addr) : It :=
  ⟨fun i H => ∃ xs ys x y, SqK k1 K H a xs /\ SqK k2 K H b ys /\ xs[i]? = some x /\ ys[i]? = some y,
   fun i H v H' => ∃ p x y, H p = none /\ v = .ref p /\ H' = upd H p (.tup [x, y]) /\ (∀ xs, SqK k1 K H a xs -> xs[i]? = some x) /\ ∀ ys, SqK k2 K H b ys -> ys[i]? = some y,
   fun i H => ∃ xs ys, SqK k1 K H a xs /\ SqK k2 K H b ys /\ (xs.length <= i ∨ ys.length <= i)⟩
theorem turn_zip {P : Program} {w : World} {K : PySem.W.Frag} {elts : List Expr} {x1 : Nat} {pos : Pos} (k1 k2 : Bool) {z TI TO i1 i2 l1 l2 : Addr} (D : ZipApart z TI TO i1 i2 l1 l2) :
    Turn P w K (.Tuple elts x1 pos) (Itz K k1 k2 l1 l2) [z, TI, TO, i1, i2] z (fun i h => IsZip h z TI TO .none /\ IsPair h TI (.ref i1) (.ref i2) /\ (∃ a b, IsPair h TO a b) /\ Dt.ItK k1 h i1 l1 i /\ Dt.ItK k2 h i2 l2 i) where
  mem := by simp
  obj := fun i h st b hb => by
    obtain ⟨hz, hTI, ⟨a, c, hTO⟩, h1, h2⟩ := st
    have hb' : b = z ∨ b = TI ∨ b = TO ∨ b = i1 ∨ b = i2 := by simpa using hb
    rcases hb' with rfl | rfl | rfl | rfl | rfl
    · exact ⟨_, hz, fun v z => nomatch z⟩
    · exact ⟨_, hTI, fun v z => nomatch z⟩
    · exact ⟨_, hTO, fun v z => nomatch z⟩
    · exact h1.obj
    · exact h2.obj
  keep := fun i h h' st k => by
    obtain ⟨hz, hTI, ⟨a, c, hTO⟩, h1, h2⟩ := st
    exact ⟨k z (by simp) _ hz, k TI (by simp) _ hTI, ⟨a, c, k TO (by simp) _ hTO⟩, h1.to (k i1 (by simp)), h2.to (k i2 (by simp))⟩
  item := by
    intro X hP hw hK hc i pins s σ H E I hf st hg
    subst hP hw hK
    obtain ⟨hz, hTI, ⟨a, c, hTO⟩, h1, h2⟩ := st
    obtain ⟨xs, ys, x, y, hq1, hq2, hx, hy⟩ := hg
    obtain ⟨is1, rv1, p1⟩ := I.sqK hq1
    obtain ⟨is2, rv2, p2⟩ := I.sqK hq2
    obtain ⟨u, hu, ru⟩ := rv1.get hx
    obtain ⟨v, hv, rv⟩ := rv2.get hy
    refine Dt.pyNext_zip D hz hTI hTO h1 h2 p1 p2 (x := u) (y := v) (by simpa using hu) (by simpa using hv) fun h' a1 a2 a3 a4 a5 a6 hk' => ?_
    refine ⟨_, rfl, wpAny_letOwnedTupleGo_zip (s := { s with heap := h' }) a1 fun h3 hz3 sb3 => ?_⟩
    have nn : H s.heap.objs.size = none := I.hok.fresh (Nat.le_refl _)
    have keep : ∀ b o, b ≠ z -> b ≠ TO -> b ≠ i1 -> b ≠ i2 -> s.heap.get? b = some o -> h3.get? b = some o := fun b o n1 n2 n3 n4 q => (sb3.2 b n1).trans (hk' b o n1 n2 n3 n4 q)
    have nt : ∀ b u, H b = some u -> b ≠ z /\ b ≠ TO /\ b ≠ i1 /\ b ≠ i2 := fun b u q => ⟨(fun e => by rw [e, (hf z (by simp)).1] at q; cases q), (fun e => by rw [e, (hf TO (by simp)).1] at q; cases q), (fun e => by rw [e, (hf i1 (by simp)).1] at q; cases q), (fun e => by rw [e, (hf i2 (by simp)).1] at q; cases q)⟩
    have mem2 : ∀ b, b ∉ [z, TO, i1, i2] -> b ≠ z /\ b ≠ TO /\ b ≠ i1 /\ b ≠ i2 := fun b hb => by simpa using hb
    have kp : ∀ b o, b ∉ [z, TO, i1, i2] -> s.heap.get? b = some o -> h3.get? b = some o := fun b o hb q => keep b o (mem2 b hb).1 (mem2 b hb).2.1 (mem2 b hb).2.2.1 (mem2 b hb).2.2.2 q
    have I1 : Inv X pins σ H { s with heap := h3 } := by
      refine I.step (g' := s.gens) (d' := s.drawn) (t' := s.toks) (ch := [z, TO, i1, i2]) (fun b hb => ?_) (fun b o _ _ hc q _ => kp b o hc q) (fun b o _ _ hc q _ => ⟨o.slots, kp b o hc q⟩) (fun _ _ _ _ n => n)
        (fun b o hc q => ⟨o, kp b o hc q⟩) (fun _ _ q => q) (fun _ _ _ q => q) (fun b ps q => ⟨#[], by rw [q]; simp⟩) (fun m hm => ?_) (fun b u q => ?_) I.bare
      · have hb2 : b ∈ [z, TI, TO, i1, i2] := by
          have hb' : b = z ∨ b = TO ∨ b = i1 ∨ b = i2 := by simpa using hb
          rcases hb' with rfl | rfl | rfl | rfl <;> simp
        have fb := hf b hb2
        exact ⟨fb.2.2.2.1, fb.2.1, fb.2.2.2.2.1, fb.2.2.2.2.2⟩
      · obtain ⟨o, es, ep, ho, r⟩ := hm
        exact ⟨o, es, ep, keep _ o (Ne.symm (hf z (by simp)).2.1) (Ne.symm (hf TO (by simp)).2.1) (Ne.symm (hf i1 (by simp)).2.1) (Ne.symm (hf i2 (by simp)).2.1) ho, r⟩
      · refine (I.hok b u q).stay (fun c v hc q' => ?_) (fun _ q' => q') fun _ _ q' => q'
        rcases hc with e | e
        · rw [e] at q' ⊢
          obtain ⟨n1, n2, n3, n4⟩ := nt b u q
          exact keep _ v n1 n2 n3 n4 q'
        · obtain ⟨n1, n2, n3, n4⟩ := nt c _ e
          exact keep _ v n1 n2 n3 n4 q'
    have hzl : z < s.heap.objs.size := Heap.lt_size hz
    have ht2 : h3.get? s.heap.objs.size = some { cls := .type "tuple", data := .seq #[u, v] } := (sb3.2 _ (Nat.ne_of_gt hzl)).trans a5
    have I2 : Inv X pins σ (upd H s.heap.objs.size (.tup [x, y])) { s with heap := h3 } :=
      I.later (Heap.get?_none_of_le (Nat.le_refl _)) I1 nn ⟨(by show 2 <= sizeLine; decide), [u, v], .cons ru (.cons rv .nil), _, ht2, ⟨rfl, rfl⟩, 0, rfl⟩
    refine ⟨.ref s.heap.objs.size, _, I2, rfl, ⟨s.heap.objs.size, x, y, nn, rfl, rfl, fun xs' h' => by rw [I.sqK_inj h' hq1]; exact hx, fun ys' h' => by rw [I.sqK_inj h' hq2]; exact hy⟩,
      ⟨hz3, (sb3.2 _ D.TIz).trans (hk' _ _ D.TIz D.TITO D.TIi1 D.TIi2 hTI), ⟨u, v, (sb3.2 _ D.TOz).trans a2⟩, a3.to fun o e => (sb3.2 _ D.i1z).trans e, a4.to fun o e => (sb3.2 _ D.i2z).trans e⟩, fun b hb => ?_⟩
    have hlt : b < s.heap.objs.size := by
      have hb' : b = z ∨ b = TI ∨ b = TO ∨ b = i1 ∨ b = i2 := by simpa using hb
      rcases hb' with rfl | rfl | rfl | rfl | rfl
      · exact hzl
      · exact Heap.lt_size hTI
      · exact Heap.lt_size hTO
      · obtain ⟨o, e, _⟩ := h1.obj; exact Heap.lt_size e
      · obtain ⟨o, e, _⟩ := h2.obj; exact Heap.lt_size e
    rw [upd_ne (Nat.ne_of_lt hlt)]
    exact (hf b hb).1
  done := by
    intro X hP hw hK hc i pins s σ H E I hf st hg
    subst hP hw hK
    obtain ⟨hz, hTI, ⟨a, c, hTO⟩, h1, h2⟩ := st
    obtain ⟨xs, ys, hq1, hq2, hend⟩ := hg
    obtain ⟨is1, rv1, p1⟩ := I.sqK hq1
    obtain ⟨is2, rv2, p2⟩ := I.sqK hq2
    have e1 := rv1.length
    have e2 := rv2.length
    refine Dt.pyNext_zip_end (I.ok.hd hc) D hz hTI hTO h1 h2 p1 p2 ?_ fun h' hk' => ⟨rfl, ?_⟩
    · rcases hend with h | h
      · exact .inl (by rw [Array.getElem?_eq_none_iff, List.size_toArray]; omega)
      · exact .inr (by rw [Array.getElem?_eq_none_iff, List.size_toArray]; omega)
    have nt : ∀ b u, H b = some u -> b ≠ z /\ b ≠ TO /\ b ≠ i1 /\ b ≠ i2 := fun b u q => ⟨(fun e => by rw [e, (hf z (by simp)).1] at q; cases q), (fun e => by rw [e, (hf TO (by simp)).1] at q; cases q), (fun e => by rw [e, (hf i1 (by simp)).1] at q; cases q), (fun e => by rw [e, (hf i2 (by simp)).1] at q; cases q)⟩
    have mem2 : ∀ b, b ∉ [z, TO, i1, i2] -> b ≠ z /\ b ≠ TO /\ b ≠ i1 /\ b ≠ i2 := fun b hb => by simpa using hb
    have kp : ∀ b o, b ∉ [z, TO, i1, i2] -> s.heap.get? b = some o -> h'.get? b = some o := fun b o hb q => hk' b o (mem2 b hb).1 (mem2 b hb).2.1 (mem2 b hb).2.2.1 (mem2 b hb).2.2.2 q
    refine I.step (g' := s.gens) (d' := s.drawn) (t' := s.toks) (ch := [z, TO, i1, i2]) (fun b hb => ?_) (fun b o _ _ hc q _ => kp b o hc q) (fun b o _ _ hc q _ => ⟨o.slots, kp b o hc q⟩) (fun _ _ _ _ n => n)
      (fun b o hc q => ⟨o, kp b o hc q⟩) (fun _ _ q => q) (fun _ _ _ q => q) (fun b ps q => ⟨#[], by rw [q]; simp⟩) (fun m hm => ?_) (fun b u q => ?_) I.bare
    · have hb2 : b ∈ [z, TI, TO, i1, i2] := by
        have hb' : b = z ∨ b = TO ∨ b = i1 ∨ b = i2 := by simpa using hb
        rcases hb' with rfl | rfl | rfl | rfl <;> simp
      have fb := hf b hb2
      exact ⟨fb.2.2.2.1, fb.2.1, fb.2.2.2.2.1, fb.2.2.2.2.2⟩
    · obtain ⟨o, es, ep, ho, r⟩ := hm
      exact ⟨o, es, ep, hk' _ o (Ne.symm (hf z (by simp)).2.1) (Ne.symm (hf TO (by simp)).2.1) (Ne.symm (hf i1 (by simp)).2.1) (Ne.symm (hf i2 (by simp)).2.1) ho, r⟩
    · refine (I.hok b u q).stay (fun c v hc q' => ?_) (fun _ q' => q') fun _ _ q' => q'
      rcases hc with e | e
      · rw [e] at q' ⊢
        obtain ⟨n1, n2, n3, n4⟩ := nt b u q
        exact hk' _ v n1 n2 n3 n4 q'
      · obtain ⟨n1, n2, n3, n4⟩ := nt c _ e
        exact hk' _ v n1 n2 n3 n4 q'
  self := fun _ _ _ _ _ st h => wpAny_pyIter_zip st.1 h
def iZip (K : PySem.W.Frag) (k1 k2 : Bool) (ta : TA) : TI := fun σ H R => ta σ H fun vs H1 => ∃ a b, vs = [.ref a, .ref b] /\ (∃ xs, SqK k1 K H1 a xs) /\ (∃ ys, SqK k2 K H1 b ys) /\ R (Itz K k1 k2 a b) H1
theorem pi_zip {X : Cx} (k1 k2 : Bool) {elts : List Expr} {x1 : Nat} {tpos : Pos} {a b : Expr} {ta : TA} {p pos : Pos} (hg : Gl X "zip") (hm : X.mg "zip" = none) (ha : PA X [a, b] ta) (hs : starEach [a, b] X.env = (false, eval a X.env) :: starEach [b] X.env := by rfl) (hp : (backTo pos (starEach [b] X.env)).any (·.1) = false := by rfl) :
    PI X (.Tuple elts x1 tpos) (.Call (.Name "zip" p) [a, b] [] pos) (iZip X.K k1 k2 ta) := by
  intro pins s σ H R I h
  refine Call_ (ld_blt I hg hm bt_zip (PyProof.Rows.callWith_type1 (thn (ha pos pins s σ H _ I h) fun us s1 ⟨vs, H1, I1, r1, q1⟩ => ?_) hs hp))
  obtain ⟨l1, l2, e, ⟨xs, hq1⟩, ⟨ys, hq2⟩, q⟩ := q1
  subst e
  obtain ⟨u, v, rfl, rx, ry⟩ := vals2 r1
  cases (show u = Value.ref l1 from rx)
  cases (show v = Value.ref l2 from ry)
  obtain ⟨is1, rv1, p1⟩ := I1.sqK hq1
  obtain ⟨is2, rv2, p2⟩ := I1.sqK hq2
  refine Dt.call_zip p1 p2 fun h' hz hTI hTO it1 it2 hsz hk => ?_
  refine wpAny_pyIter_zip hz ?_
  have I2 : Inv X pins σ H1 { s1 with heap := h' } := I1.kept (t' := s1.toks) hk
  have n1 : l1 < s1.heap.objs.size := p1.lt
  have n2 : l2 < s1.heap.objs.size := p2.lt
  have D : ZipApart (s1.heap.objs.size + 4) (s1.heap.objs.size + 2) (s1.heap.objs.size + 3) s1.heap.objs.size (s1.heap.objs.size + 1) l1 l2 := by
    constructor <;> (intro e; simp only [Addr] at *; omega)
  refine ⟨_, _, _, _, H1, rfl, I2, turn_zip k1 k2 D, ⟨hz, hTI, ⟨_, _, hTO⟩, it1, it2⟩, fun b hb => ?_, q⟩
  have ge : s1.heap.objs.size <= b := by
    have hb' : b = s1.heap.objs.size + 4 ∨ b = s1.heap.objs.size + 2 ∨ b = s1.heap.objs.size + 3 ∨ b = s1.heap.objs.size ∨ b = s1.heap.objs.size + 1 := by simpa using hb
    rcases hb' with rfl | rfl | rfl | rfl | rfl
    · exact Nat.le_add_right ..
    · exact Nat.le_add_right ..
    · exact Nat.le_add_right ..
    · exact Nat.le_refl _
    · exact Nat.le_add_right ..
  exact I1.fpOk ge (I1.hok.fresh ge)
end L2
set_option Elab.async false
set_option linter.all false
set_option maxRecDepth 100000
set_option maxHeartbeats 4000000
namespace L2
open PySem PySem.Spec PyProof.Rows
section
variable {X : Cx} {K : PySem.W.Frag}
theorem call_lenK (hK : X.K = K) : CallR X (.builtin "len") (fun xs H Q => ∃ p ys, xs = [.ref p] /\ (SqL K H p ys ∨ SqT K H p ys) /\ Q (.int ys.length) H) := hK ▸ call_len_seq
theorem op_eqL0 (hK : X.K = K) (hu : X.A.units < cLine) : OpR X (compareOp .Eq) (fun x y H Q => ∃ p q xs, x = .ref p /\ y = .ref q /\ SqL K H p xs /\ SqL K H q [] /\ Q (.bl xs.isEmpty) H) := by
  subst hK
  intro pins s σ H x y v u Q I rx ry h
  obtain ⟨p, q, xs, rfl, rfl, hx, hy, hq⟩ := h
  cases rx
  cases ry
  obtain ⟨its, r, pl, hz⟩ := I.list hx
  obtain ⟨its2, r2, pl2, hz2⟩ := I.list hy
  cases r2
  cases r with
  | nil =>
    refine SeqAt.eq_listAt (e := fun _ => true) pl.isList pl2.isList rfl hu (fun j h1 h2 => absurd h2 (Nat.not_lt_zero j)) ?_
    exact ⟨.bl true, H, I, rfl, hq⟩
  | cons a b =>
    refine SeqAt.eq_list_lengthsAt pl.isList pl2.isList rfl hu ?_
    exact ⟨.bl false, H, I, rfl, hq⟩
end
end L2
set_option Elab.async false
set_option linter.all false
set_option maxRecDepth 100000
set_option maxHeartbeats 4000000
namespace L2
open PySem PySem.Spec PyProof.Rows
inductive Tv where
  | non | bl (b : Bool) | int (i : Int) | str (x : Str) | ty (n : String) | cls (C : Addr)
  | tup (l : List Tv) | lst (l : List Tv) | scr (l : List Tv) | obj (C : Addr) (fs : List Str) (l : List Tv) | dic (ks : List Key) (l : List Tv)
def SqN (K : PySem.W.Frag) (H : Hp) (a : Addr) (xs : List V) : Prop :=
  Rd H a (.tup xs) ∨
    ∃ (o : Obj) (its : Array Value) (n : Nat), K.lookup a = some o /\ o.cls = .type "tuple" /\ o.data = .seq its n /\ its.size <= sizeLine /\ Vals xs its.toList /\ o.dict = none
theorem SqN.t {K : PySem.W.Frag} {H : Hp} {a : Addr} {xs : List V} (h : SqN K H a xs) : SqT K H a xs :=
  h.imp id fun ⟨o, its, n, a, b, c, d, e, _⟩ => ⟨o, its, n, a, b, c, d, e⟩
theorem SqN.of {K : PySem.W.Frag} {H : Hp} {a : Addr} {xs : List V} (h : H a = some (.tup xs)) : SqN K H a xs := .inl (.inl h)
theorem Same.seqN {K : PySem.W.Frag} {H H' : Hp} {a : Addr} {xs : List V} (e : Same H H') (h : SqN K H a xs) : SqN K H' a xs := by
  rcases h with (h | ⟨o, h⟩) | h
  · exact .inl (.inl (e _ _ h))
  · exact .inl (.inr ⟨o, e _ _ h⟩)
  · exact .inr h
mutual
def Rep (K : PySem.W.Frag) (G : Hp) : Tv -> V -> Prop
  | .non, v => v = .non
  | .bl b, v => v = .bl b
  | .int i, v => v = .int i
  | .str x, v => v = .str x
  | .ty n, v => v = .ty n
  | .cls C, v => v = .ref C
  | .tup l, v => ∃ a xs, v = .ref a /\ SqN K G a xs /\ RepL K G l xs
  | .lst l, v => ∃ a xs, v = .ref a /\ G a = some (.lst xs) /\ RepL K G l xs
  | .scr l, v => ∃ a xs, v = .ref a /\ SqL K G a xs /\ RepL K G l xs
  | .obj C fs l, v => ∃ a dx xs, v = .ref a /\ G a = some (.ins C dx (fs.zip xs)) /\ G dx = some (.own a) /\ fs.length = l.length /\ RepL K G l xs
  | .dic ks l, v => ∃ a xs, v = .ref a /\ G a = some (.dK (ks.zip xs)) /\ ks.length = l.length /\ RepL K G l xs
def RepL (K : PySem.W.Frag) (G : Hp) : List Tv -> List V -> Prop
  | [], vs => vs = []
  | t :: l, vs => ∃ v r, vs = v :: r /\ Rep K G t v /\ RepL K G l r
end
section
variable {K : PySem.W.Frag} {G G' : Hp}
mutual
theorem Rep.same (e : Same G G') : ∀ (t : Tv) (v : V), Rep K G t v -> Rep K G' t v
  | .non, _, h => by unfold Rep at h ⊢; exact h
  | .bl b, _, h => by unfold Rep at h ⊢; exact h
  | .int b, _, h => by unfold Rep at h ⊢; exact h
  | .str b, _, h => by unfold Rep at h ⊢; exact h
  | .ty b, _, h => by unfold Rep at h ⊢; exact h
  | .cls b, _, h => by unfold Rep at h ⊢; exact h
  | .tup l, v, h => by
    unfold Rep at h ⊢
    obtain ⟨a, xs, q, s, r⟩ := h
    exact ⟨a, xs, q, e.seqN s, RepL.same e l xs r⟩
  | .lst l, v, h => by
    unfold Rep at h ⊢
    obtain ⟨a, xs, q, s, r⟩ := h
    exact ⟨a, xs, q, e _ _ s, RepL.same e l xs r⟩
  | .scr l, v, h => by
    unfold Rep at h ⊢
    obtain ⟨a, xs, q, s, r⟩ := h
    exact ⟨a, xs, q, e.seq s, RepL.same e l xs r⟩
  | .obj C fs l, v, h => by
    unfold Rep at h ⊢
    obtain ⟨a, dx, xs, q, s, d, n, r⟩ := h
    exact ⟨a, dx, xs, q, e _ _ s, e _ _ d, n, RepL.same e l xs r⟩
  | .dic ks l, v, h => by
    unfold Rep at h ⊢
    obtain ⟨a, xs, q, s, n, r⟩ := h
    exact ⟨a, xs, q, e _ _ s, n, RepL.same e l xs r⟩
theorem RepL.same (e : Same G G') : ∀ (l : List Tv) (vs : List V), RepL K G l vs -> RepL K G' l vs
  | [], _, h => by unfold RepL at h ⊢; exact h
  | t :: l, vs, h => by
    unfold RepL at h ⊢
    obtain ⟨v, r, q, a, b⟩ := h
    exact ⟨v, r, q, Rep.same e t v a, RepL.same e l r b⟩
end
theorem Rep.up {t : Tv} {v : V} (h : Rep K G t v) (e : Same G G') : Rep K G' t v := Rep.same e t v h
theorem RepL.up {l : List Tv} {vs : List V} (h : RepL K G l vs) (e : Same G G') : RepL K G' l vs := RepL.same e l vs h
theorem rep_non {v : V} : Rep K G .non v ↔ v = .non := by unfold Rep; exact Iff.rfl
theorem rep_bl {b : Bool} {v : V} : Rep K G (.bl b) v ↔ v = .bl b := by unfold Rep; exact Iff.rfl
theorem rep_int {i : Int} {v : V} : Rep K G (.int i) v ↔ v = .int i := by unfold Rep; exact Iff.rfl
theorem rep_str {x : Str} {v : V} : Rep K G (.str x) v ↔ v = .str x := by unfold Rep; exact Iff.rfl
theorem rep_ty {x : String} {v : V} : Rep K G (.ty x) v ↔ v = .ty x := by unfold Rep; exact Iff.rfl
theorem rep_cls {x : Addr} {v : V} : Rep K G (.cls x) v ↔ v = .ref x := by unfold Rep; exact Iff.rfl
theorem rep_tup {l : List Tv} {v : V} : Rep K G (.tup l) v ↔ ∃ a xs, v = .ref a /\ SqN K G a xs /\ RepL K G l xs := by
  conv => lhs; unfold Rep
theorem rep_tupS {l : List Tv} {v : V} (h : Rep K G (.tup l) v) : ∃ a xs, v = .ref a /\ SqT K G a xs /\ RepL K G l xs :=
  let ⟨a, xs, e, s, r⟩ := rep_tup.mp h; ⟨a, xs, e, s.t, r⟩
theorem rep_lst {l : List Tv} {v : V} : Rep K G (.lst l) v ↔ ∃ a xs, v = .ref a /\ G a = some (.lst xs) /\ RepL K G l xs := by
  conv => lhs; unfold Rep
theorem rep_scr {l : List Tv} {v : V} : Rep K G (.scr l) v ↔ ∃ a xs, v = .ref a /\ SqL K G a xs /\ RepL K G l xs := by
  conv => lhs; unfold Rep
theorem rep_dic {ks : List Key} {l : List Tv} {v : V} : Rep K G (.dic ks l) v ↔ ∃ a xs, v = .ref a /\ G a = some (.dK (ks.zip xs)) /\ ks.length = l.length /\ RepL K G l xs := by
  conv => lhs; unfold Rep
theorem repL_nil {vs : List V} : RepL K G [] vs ↔ vs = [] := by unfold RepL; exact Iff.rfl
theorem repL_cons {t : Tv} {l : List Tv} {vs : List V} : RepL K G (t :: l) vs ↔ ∃ v r, vs = v :: r /\ Rep K G t v /\ RepL K G l r := by
  conv => lhs; unfold RepL
theorem RepL.cons {t : Tv} {l : List Tv} {v : V} {r : List V} (a : Rep K G t v) (b : RepL K G l r) : RepL K G (t :: l) (v :: r) := repL_cons.mpr ⟨v, r, rfl, a, b⟩
theorem RepL.nil : RepL K G [] [] := repL_nil.mpr rfl
theorem RepL.len : ∀ {l : List Tv} {xs : List V}, RepL K G l xs -> xs.length = l.length
  | [], xs, h => by rw [repL_nil.mp h]; rfl
  | t :: l, xs, h => by
    obtain ⟨v, r, rfl, _, b⟩ := repL_cons.mp h
    rw [List.length_cons, List.length_cons, b.len]
theorem RepL.get : ∀ {l : List Tv} {xs : List V} {i : Nat} {t : Tv}, RepL K G l xs -> l[i]? = some t -> ∃ v, xs[i]? = some v /\ Rep K G t v
  | [], _, _, _, _, e => by simp at e
  | s :: l, xs, 0, t, h, e => by
    obtain ⟨v, r, rfl, a, b⟩ := repL_cons.mp h
    simp at e
    subst e
    exact ⟨v, rfl, a⟩
  | s :: l, xs, i + 1, t, h, e => by
    obtain ⟨v, r, rfl, a, b⟩ := repL_cons.mp h
    obtain ⟨u, hu, q⟩ := b.get (i := i) (t := t) (by simpa using e)
    exact ⟨u, by simpa using hu, q⟩
theorem RepL.app : ∀ {l m : List Tv} {xs ys : List V}, RepL K G l xs -> RepL K G m ys -> RepL K G (l ++ m) (xs ++ ys)
  | [], _, xs, _, h, k => by rw [repL_nil.mp h]; exact k
  | t :: l, m, xs, ys, h, k => by
    obtain ⟨v, r, rfl, a, b⟩ := repL_cons.mp h
    exact .cons a (b.app k)
theorem RepL.drop : ∀ {l : List Tv} {xs : List V} (n : Nat), RepL K G l xs -> RepL K G (l.drop n) (xs.drop n)
  | _, _, 0, h => by simpa using h
  | [], xs, n + 1, h => by rw [repL_nil.mp h]; exact .nil
  | t :: l, xs, n + 1, h => by
    obtain ⟨v, r, rfl, a, b⟩ := repL_cons.mp h
    exact b.drop n
theorem RepL.take : ∀ {l : List Tv} {xs : List V} (n : Nat), RepL K G l xs -> RepL K G (l.take n) (xs.take n)
  | _, _, 0, h => by simpa using RepL.nil
  | [], xs, n + 1, h => by rw [repL_nil.mp h]; exact .nil
  | t :: l, xs, n + 1, h => by
    obtain ⟨v, r, rfl, a, b⟩ := repL_cons.mp h
    exact .cons a (b.take n)
theorem RepL.set {t : Tv} {v : V} (q : Rep K G t v) : ∀ {l : List Tv} {xs : List V} (n : Nat), RepL K G l xs -> RepL K G (l.set n t) (xs.set n v)
  | [], xs, n, h => by rw [repL_nil.mp h]; exact .nil
  | s :: l, xs, 0, h => by
    obtain ⟨v, r, rfl, a, b⟩ := repL_cons.mp h
    exact .cons q b
  | s :: l, xs, n + 1, h => by
    obtain ⟨v, r, rfl, a, b⟩ := repL_cons.mp h
    exact .cons a (b.set q n)
theorem RepL.rep {l : List Tv} {xs : List V} (h : RepL K G l xs) : ∀ n : Nat, RepL K G (List.replicate n l).flatten (List.replicate n xs).flatten
  | 0 => .nil
  | n + 1 => by
    rw [List.replicate_succ, List.replicate_succ, List.flatten_cons, List.flatten_cons]
    exact h.app (h.rep n)
theorem RepL.at {l : List Tv} {xs : List V} {i : Int} {t : Tv} (h : RepL K G l xs) (e : atI l i = some t) : ∃ v, atI xs i = some v /\ Rep K G t v := by
  unfold atI at e ⊢
  rw [h.len]
  cases q : ixN l.length i with
  | none => rw [q] at e; cases e
  | some j => rw [q] at e; exact h.get e
theorem RepL.ints : ∀ {ns : List Int}, RepL K G (ns.map Tv.int) (ns.map V.int)
  | [] => .nil
  | n :: ns => .cons (rep_int.mpr rfl) RepL.ints
end
abbrev Pts := Nat -> Hp
def noH : Hp := fun _ => none
structure Uni (H : Hp) (p : Pts) : Prop where
  mem : ∀ b o, H b = some o ↔ ∃ i, p i b = some o
  ap : ∀ i j b, i ≠ j -> p i b = none ∨ p j b = none
def pset (p : Pts) (i : Nat) (A : Hp) : Pts := fun j => if j = i then A else p j
theorem pset_at {p : Pts} {i : Nat} {A : Hp} : pset p i A i = A := by unfold pset; rw [if_pos rfl]
theorem pset_ne {p : Pts} {i j : Nat} {A : Hp} (h : j ≠ i) : pset p i A j = p j := by unfold pset; rw [if_neg h]
theorem pset_pset {p : Pts} {i : Nat} {A B : Hp} : pset (pset p i A) i B = pset p i B := by
  funext j; unfold pset; split <;> rfl
theorem pset_self {p : Pts} {i : Nat} : pset p i (p i) = p := by
  funext j; unfold pset; split
  · rename_i h; rw [h]
  · rfl
def uniH (A B : Hp) : Hp := fun b => match A b with | some o => some o | none => B b
theorem Same.uni {A B : Hp} : Same A (uniH A B) := fun b o e => by unfold uniH; rw [e]
section
variable {H H' : Hp} {p : Pts} {a : Addr} {o : HO} {i j : Nat}
theorem Uni.fresh (u : Uni H p) (h : H a = none) (i : Nat) : p i a = none := by
  cases e : p i a with
  | none => rfl
  | some o => have := (u.mem a o).mpr ⟨i, e⟩; rw [h] at this; cases this
theorem Uni.sub (u : Uni H p) (i : Nat) : Same (p i) H := fun b o e => (u.mem b o).mpr ⟨i, e⟩
theorem Uni.other (u : Uni H p) (h : p i a = some o) (n : j ≠ i) : p j a = none := by
  rcases u.ap j i a n with q | q
  · exact q
  · rw [h] at q; cases q
theorem Uni.put (u : Uni H p) (h : ∀ j, j ≠ i -> p j a = none) (o : HO) : Uni (upd H a o) (pset p i (upd (p i) a o)) := by
  refine ⟨fun b o' => ?_, fun j k b n => ?_⟩
  · by_cases hb : b = a
    · subst hb
      rw [upd_same]
      constructor
      · intro e; cases e; exact ⟨i, by rw [pset_at, upd_same]⟩
      · rintro ⟨j, e⟩
        by_cases hj : j = i
        · subst hj; rw [pset_at, upd_same] at e; exact e
        · rw [pset_ne hj, h j hj] at e; cases e
    · rw [upd_ne hb, u.mem]
      constructor
      · rintro ⟨j, e⟩
        refine ⟨j, ?_⟩
        by_cases hj : j = i
        · subst hj; rw [pset_at, upd_ne hb]; exact e
        · rw [pset_ne hj]; exact e
      · rintro ⟨j, e⟩
        refine ⟨j, ?_⟩
        by_cases hj : j = i
        · subst hj; rw [pset_at, upd_ne hb] at e; exact e
        · rw [pset_ne hj] at e; exact e
  · have at_ : ∀ j, j ≠ i -> pset p i (upd (p i) a o) j b = p j b := fun j hj => by rw [pset_ne hj]
    by_cases hb : b = a
    · subst hb
      by_cases hj : j = i
      · have hk : k ≠ i := fun z => n (hj.trans z.symm)
        exact .inr (by rw [at_ k hk]; exact h k hk)
      · exact .inl (by rw [at_ j hj]; exact h j hj)
    · have e : ∀ j, pset p i (upd (p i) a o) j b = p j b := fun j => by
        by_cases hj : j = i
        · subst hj; rw [pset_at, upd_ne hb]
        · exact at_ j hj
      rw [e j, e k]; exact u.ap j k b n
theorem Uni.alloc (u : Uni H p) (h : H a = none) (i : Nat) (o : HO) : Uni (upd H a o) (pset p i (upd (p i) a o)) := u.put (fun j _ => u.fresh h j) o
def mv (p : Pts) (j : Nat) : Pts := pset (pset p 0 (uniH (p 0) (p j))) j noH
theorem mv_zero {p : Pts} {j : Nat} (h : j ≠ 0) : mv p j 0 = uniH (p 0) (p j) := by unfold mv; rw [pset_ne (Ne.symm h), pset_at]
theorem mv_at {p : Pts} {j : Nat} : mv p j j = noH := by unfold mv; rw [pset_at]
theorem mv_ne {p : Pts} {j k : Nat} (h0 : k ≠ 0) (h : k ≠ j) : mv p j k = p k := by unfold mv; rw [pset_ne h, pset_ne h0]
theorem Uni.mv (u : Uni H p) (hj : j ≠ 0) : Uni H (L2.mv p j) := by
  have val : ∀ k b, L2.mv p j k b = if k = j then none else if k = 0 then (match p 0 b with | some o => some o | none => p j b) else p k b := fun k b => by
    by_cases h1 : k = j
    · subst h1; rw [mv_at, if_pos rfl]; rfl
    · rw [if_neg h1]
      by_cases h2 : k = 0
      · subst h2; rw [mv_zero hj, if_pos rfl]; rfl
      · rw [mv_ne h2 h1, if_neg h2]
  refine ⟨fun b o => ?_, fun k l b n => ?_⟩
  · rw [u.mem]
    constructor
    · rintro ⟨k, e⟩
      by_cases h1 : k = j
      · subst h1
        refine ⟨0, ?_⟩
        rw [val, if_neg (Ne.symm hj), if_pos rfl, u.other e (Ne.symm hj)]; exact e
      · by_cases h2 : k = 0
        · subst h2
          exact ⟨0, by rw [val, if_neg h1, if_pos rfl, e]⟩
        · exact ⟨k, by rw [val, if_neg h1, if_neg h2]; exact e⟩
    · rintro ⟨k, e⟩
      rw [val] at e
      split at e
      · cases e
      · split at e
        · split at e
          · rename_i q; cases e; exact ⟨0, q⟩
          · exact ⟨j, e⟩
        · exact ⟨k, e⟩
  · rw [val, val]
    by_cases k1 : k = j
    · exact .inl (by rw [if_pos k1])
    by_cases l1 : l = j
    · exact .inr (by rw [if_pos l1])
    rw [if_neg k1, if_neg l1]
    by_cases k0 : k = 0
    · subst k0
      have l0 : l ≠ 0 := Ne.symm n
      rw [if_pos rfl, if_neg l0]
      rcases u.ap 0 l b n with q | q
      · rcases u.ap j l b (Ne.symm l1) with q' | q'
        · exact .inl (by rw [q]; exact q')
        · exact .inr q'
      · exact .inr q
    · rw [if_neg k0]
      by_cases l0 : l = 0
      · subst l0
        rw [if_pos rfl]
        rcases u.ap 0 k b (Ne.symm n) with q | q
        · rcases u.ap j k b (Ne.symm k1) with q' | q'
          · exact .inr (by rw [q]; exact q')
          · exact .inl q'
        · exact .inl q
      · rw [if_neg l0]; exact u.ap k l b n
def three (A B C : Hp) : Pts := fun i => match i with | 0 => A | 1 => B | 2 => C | _ => noH
def butH (H A B : Hp) : Hp := fun b => match A b, B b with | none, none => H b | _, _ => none
theorem Uni.gather (u : Uni H p) (k : Nat) (hk : k ≠ 0) (hk1 : k ≠ 1) : Uni H (three (butH H (p 1) (p k)) (p 1) (p k)) /\ Same (p 0) (butH H (p 1) (p k)) := by
  have v : ∀ b, butH H (p 1) (p k) b = match p 1 b, p k b with | none, none => H b | _, _ => none := fun _ => rfl
  refine ⟨⟨fun b o => ?_, fun i j b n => ?_⟩, fun b o e => ?_⟩
  · constructor
    · intro e
      cases e1 : p 1 b with
      | some o1 =>
        have := (u.mem b o1).mpr ⟨1, e1⟩
        rw [e] at this; cases this
        exact ⟨1, e1⟩
      | none =>
        cases e2 : p k b with
        | some o1 =>
          have := (u.mem b o1).mpr ⟨k, e2⟩
          rw [e] at this; cases this
          exact ⟨2, e2⟩
        | none => exact ⟨0, by show butH H (p 1) (p k) b = _; rw [v, e1, e2]; exact e⟩
    · rintro ⟨i, e⟩
      match i, e with
      | 0, e =>
        have e : butH H (p 1) (p k) b = some o := e
        rw [v] at e
        split at e
        · exact e
        · cases e
      | 1, e => exact (u.mem b o).mpr ⟨1, e⟩
      | 2, e => exact (u.mem b o).mpr ⟨k, e⟩
      | _ + 3, e => cases (show (none : Option HO) = some o from e)
  · have h01 : butH H (p 1) (p k) b = none ∨ p 1 b = none := by
      rw [v]; cases e1 : p 1 b with
      | none => exact .inr rfl
      | some _ => exact .inl rfl
    have h02 : butH H (p 1) (p k) b = none ∨ p k b = none := by
      rw [v]; cases e1 : p 1 b with
      | some _ => exact .inl rfl
      | none =>
        cases e2 : p k b with
        | none => exact .inr rfl
        | some _ => exact .inl rfl
    have h12 := u.ap 1 k b (Ne.symm hk1)
    match i, j, n with
    | 0, 0, n => exact absurd rfl n
    | 0, 1, _ => exact h01
    | 0, 2, _ => exact h02
    | 0, _ + 3, _ => exact .inr rfl
    | 1, 0, _ => exact h01.symm
    | 1, 1, n => exact absurd rfl n
    | 1, 2, _ => exact h12
    | 1, _ + 3, _ => exact .inr rfl
    | 2, 0, _ => exact h02.symm
    | 2, 1, _ => exact h12.symm
    | 2, 2, n => exact absurd rfl n
    | 2, _ + 3, _ => exact .inr rfl
    | _ + 3, _, _ => exact .inl rfl
  · have e1 : p 1 b = none := u.other e (by decide)
    have e2 : p k b = none := u.other e hk
    rw [v, e1, e2]
    exact (u.mem b o).mpr ⟨0, e⟩
def restH (p : Pts) (H : Hp) : Hp := fun b => match p 0 b with | some _ => none | none => H b
theorem restH_some (u : Uni H p) {b : Addr} {o : HO} : restH p H b = some o ↔ ∃ i, i ≠ 0 /\ p i b = some o := by
  unfold restH
  constructor
  · intro e
    split at e
    · cases e
    · rename_i q
      obtain ⟨i, hi⟩ := (u.mem b o).mp e
      refine ⟨i, fun z => ?_, hi⟩
      subst z; rw [q] at hi; cases hi
  · rintro ⟨i, hi, e⟩
    rw [u.other e (Ne.symm hi)]
    exact (u.mem b o).mpr ⟨i, e⟩
theorem Uni.two (u : Uni H p) : Uni H (three (p 0) (restH p H) noH) := by
  refine ⟨fun b o => ?_, fun i j b n => ?_⟩
  · constructor
    · intro e
      obtain ⟨i, hi⟩ := (u.mem b o).mp e
      by_cases h : i = 0
      · subst h; exact ⟨0, hi⟩
      · exact ⟨1, (restH_some u).mpr ⟨i, h, hi⟩⟩
    · rintro ⟨i, e⟩
      match i, e with
      | 0, e => exact (u.mem b o).mpr ⟨0, e⟩
      | 1, e =>
        obtain ⟨i, _, hi⟩ := (restH_some u).mp (show restH p H b = some o from e)
        exact (u.mem b o).mpr ⟨i, hi⟩
      | 2, e => cases (show (none : Option HO) = some o from e)
      | _ + 3, e => cases (show (none : Option HO) = some o from e)
  · have h01 : p 0 b = none ∨ restH p H b = none := by
      unfold restH
      cases e : p 0 b with
      | none => exact .inl rfl
      | some _ => exact .inr rfl
    match i, j, n with
    | 0, 0, n => exact absurd rfl n
    | 0, 1, _ => exact h01
    | 0, 2, _ => exact .inr rfl
    | 0, _ + 3, _ => exact .inr rfl
    | 1, 0, _ => exact h01.symm
    | 1, 1, n => exact absurd rfl n
    | 1, 2, _ => exact .inr rfl
    | 1, _ + 3, _ => exact .inr rfl
    | 2, _, _ => exact .inl rfl
    | _ + 3, _, _ => exact .inl rfl
theorem Uni.back (u : Uni H p) {q : Pts} (v : Uni H' q) (h1 : q 1 = restH p H) : Uni H' (pset p 0 (butH H' (q 1) noH)) /\ Same (q 0) (butH H' (q 1) noH) := by
  have val : ∀ b, butH H' (q 1) noH b = match q 1 b with | none => H' b | some _ => none := fun b => by
    show (match q 1 b, noH b with | none, none => H' b | _, _ => none) = _
    cases q 1 b <;> rfl
  refine ⟨⟨fun b o => ?_, fun i j b n => ?_⟩, fun b o e => ?_⟩
  · constructor
    · intro e
      cases e1 : q 1 b with
      | none => exact ⟨0, by rw [pset_at, val, e1]; exact e⟩
      | some o1 =>
        have := (v.mem b o1).mpr ⟨1, e1⟩
        rw [e] at this; cases this
        rw [h1] at e1
        obtain ⟨i, hi, e2⟩ := (restH_some u).mp e1
        exact ⟨i, by rw [pset_ne hi]; exact e2⟩
    · rintro ⟨i, e⟩
      by_cases hi : i = 0
      · subst hi
        rw [pset_at, val] at e
        split at e
        · exact e
        · cases e
      · rw [pset_ne hi] at e
        exact (v.mem b o).mpr ⟨1, by rw [h1]; exact (restH_some u).mpr ⟨i, hi, e⟩⟩
  · have key : ∀ k, k ≠ 0 -> butH H' (q 1) noH b = none ∨ p k b = none := fun k hk => by
      rw [val]
      cases e : p k b with
      | none => exact .inr rfl
      | some o => exact .inl (by rw [h1, (restH_some u).mpr ⟨k, hk, e⟩])
    by_cases hi : i = 0
    · subst hi
      have hj : j ≠ 0 := Ne.symm n
      rw [pset_at, pset_ne hj]; exact key j hj
    · by_cases hj : j = 0
      · subst hj
        rw [pset_at, pset_ne hi]; exact (key i hi).symm
      · rw [pset_ne hi, pset_ne hj]; exact u.ap i j b n
  · rw [val, v.other e (by decide)]
    exact (v.mem b o).mpr ⟨0, e⟩
end
def RepD (K : PySem.W.Frag) (G : Hp) : List (Key × Tv) -> List (Key × V) -> Prop := Paired fun x y => x.1 = y.1 /\ Rep K G x.2 y.2
theorem RepD.up {K : PySem.W.Frag} {G G' : Hp} {d : List (Key × Tv)} {ds : List (Key × V)} (h : RepD K G d ds) (e : Same G G') : RepD K G' d ds := by
  unfold RepD at h ⊢
  induction h with
  | nil => exact .nil
  | cons f _ ih => exact .cons ⟨f.1, f.2.up e⟩ ih
theorem RepD.keys {K : PySem.W.Frag} {G : Hp} {d : List (Key × Tv)} {ds : List (Key × V)} (h : RepD K G d ds) : ds.map (·.1) = d.map (·.1) := by
  unfold RepD at h
  induction h with
  | nil => rfl
  | cons f _ ih => rw [List.map_cons, List.map_cons, ih, f.1]
theorem RepD.vals {K : PySem.W.Frag} {G : Hp} {d : List (Key × Tv)} {ds : List (Key × V)} (h : RepD K G d ds) : RepL K G (d.map (·.2)) (ds.map (·.2)) := by
  unfold RepD at h
  induction h with
  | nil => exact .nil
  | cons f _ ih => exact .cons f.2 ih
theorem zip_unzip {α β : Type} : ∀ l : List (α × β), (l.map (·.1)).zip (l.map (·.2)) = l
  | [] => rfl
  | _ :: l => by rw [List.map_cons, List.map_cons, List.zip_cons_cons, zip_unzip l]
theorem RepD.dic {K : PySem.W.Frag} {G : Hp} {d : List (Key × Tv)} {ds : List (Key × V)} {a : Addr} (h : RepD K G d ds) (e : G a = some (.dK ds)) : Rep K G (.dic (d.map (·.1)) (d.map (·.2))) (.ref a) :=
  rep_dic.mpr ⟨a, ds.map (·.2), rfl, by rw [← h.keys, zip_unzip]; exact e, by simp, h.vals⟩
theorem RepD.of : ∀ {K : PySem.W.Frag} {G : Hp} {ks : List Key} {l : List Tv} {xs : List V}, ks.length = l.length -> RepL K G l xs -> RepD K G (ks.zip l) (ks.zip xs)
  | _, _, [], l, xs, _, _ => by rw [List.zip_nil_left, List.zip_nil_left]; exact .nil
  | _, _, k :: ks, [], xs, n, _ => by cases n
  | _, _, k :: ks, t :: l, xs, n, h => by
    obtain ⟨v, r, rfl, a, b⟩ := repL_cons.mp h
    rw [List.zip_cons_cons, List.zip_cons_cons]
    exact .cons ⟨rfl, a⟩ (RepD.of (by simpa using n) b)
inductive Sl where
  | un | va (t : Tv) | ow (D : Addr) (l : List Tv) | od (D : Addr) (d : List (Key × Tv))
abbrev En := List Sl
def Sl.frz : Sl -> Tv
  | .un => .non
  | .va t => t
  | .ow _ l => .lst l
  | .od _ d => .dic (d.map (·.1)) (d.map (·.2))
def Sl.mine : Sl -> Bool
  | .ow _ _ => true
  | .od _ _ => true
  | _ => false
def oneH (D : Addr) (o : HO) : Hp := upd noH D o
theorem oneH_at {D : Addr} {o : HO} : oneH D o D = some o := upd_same
def SlotR (K : PySem.W.Frag) (G O : Hp) (o : Option V) : Sl -> Prop
  | .un => O = noH
  | .va t => O = noH /\ ∃ v, o = some v /\ Rep K G t v
  | .ow D l => ∃ xs, o = some (.ref D) /\ O = oneH D (.lst xs) /\ RepL K G l xs
  | .od D d => ∃ ds, o = some (.ref D) /\ O = oneH D (.dK ds) /\ RepD K G d ds
structure ER (K : PySem.W.Frag) (p : Pts) (H : Hp) (σ : St) (ρ : En) : Prop where
  uni : Uni H p
  len : σ.length = ρ.length
  slot : ∀ i s, ρ[i]? = some s -> SlotR K (p 0) (p (i + 2)) (σ[i]?).join s
  out : ∀ i, ρ.length <= i -> p (i + 2) = noH
structure Grow (p p' : Pts) : Prop where
  same : Same (p 0) (p' 0)
  fr : p' 1 = p 1
section
variable {K : PySem.W.Frag} {p p' p'' : Pts} {H H' G G' O : Hp} {σ σ' : St} {ρ ρ' : En} {i : Nat} {t : Tv} {v : V} {o : Option V} {s : Sl} {D : Addr} {l : List Tv}
theorem Grow.refl : Grow p p := ⟨Same.refl _, rfl⟩
theorem Grow.trans (a : Grow p p') (b : Grow p' p'') : Grow p p'' := ⟨a.same.trans b.same, b.fr.trans a.fr⟩
theorem SlotR.up (e : Same G G') (h : SlotR K G O o s) : SlotR K G' O o s := by
  cases s with
  | un => exact h
  | va t => obtain ⟨a, v, b, c⟩ := h; exact ⟨a, v, b, c.up e⟩
  | ow D l => obtain ⟨xs, a, b, c⟩ := h; exact ⟨xs, a, b, c.up e⟩
  | od D d => obtain ⟨xs, a, b, c⟩ := h; exact ⟨xs, a, b, c.up e⟩
theorem ER.grow (h : ER K p H σ ρ) (e : Same (p 0) G') (u : Uni H' (pset p 0 G')) : ER K (pset p 0 G') H' σ ρ where
  uni := u
  len := h.len
  slot := fun i s q => by
    rw [pset_at, pset_ne (by omega)]
    exact (h.slot i s q).up e
  out := fun i hi => by rw [pset_ne (by omega)]; exact h.out i hi
theorem grow0 (e : Same (p 0) G') : Grow p (pset p 0 G') := ⟨by rw [pset_at]; exact e, pset_ne (by decide)⟩
theorem ER.alloc (h : ER K p H σ ρ) {a : Addr} (n : H a = none) (o : HO) : ER K (pset p 0 (upd (p 0) a o)) (upd H a o) σ ρ /\ Same (p 0) (upd (p 0) a o) := by
  have s : Same (p 0) (upd (p 0) a o) := fun b o' e => by rw [upd_ne (ne_of_none e (h.uni.fresh n 0))]; exact e
  exact ⟨h.grow s (h.uni.alloc n 0 o), s⟩
theorem ER.get (h : ER K p H σ ρ) (e : ρ[i]? = some (.va t)) : ∃ v, σ[i]? = some (some v) /\ Rep K (p 0) t v := by
  obtain ⟨_, v, q, r⟩ := h.slot i _ e
  refine ⟨v, ?_, r⟩
  cases z : σ[i]? with
  | none => rw [z] at q; cases q
  | some o => rw [z] at q; exact congrArg some (show o = some v from q)
theorem ER.own (h : ER K p H σ ρ) (e : ρ[i]? = some (.ow D l)) : ∃ xs, σ[i]? = some (some (.ref D)) /\ H D = some (.lst xs) /\ p (i + 2) = oneH D (.lst xs) /\ RepL K (p 0) l xs := by
  obtain ⟨xs, q, b, r⟩ := h.slot i _ e
  refine ⟨xs, ?_, (h.uni.mem _ _).mpr ⟨i + 2, by rw [b]; exact oneH_at⟩, b, r⟩
  cases z : σ[i]? with
  | none => rw [z] at q; cases q
  | some o => rw [z] at q; exact congrArg some (show o = some (.ref D) from q)
theorem ER.ownD {d : List (Key × Tv)} (h : ER K p H σ ρ) (e : ρ[i]? = some (.od D d)) : ∃ ds, σ[i]? = some (some (.ref D)) /\ H D = some (.dK ds) /\ p (i + 2) = oneH D (.dK ds) /\ RepD K (p 0) d ds := by
  obtain ⟨xs, q, b, r⟩ := h.slot i _ e
  refine ⟨xs, ?_, (h.uni.mem _ _).mpr ⟨i + 2, by rw [b]; exact oneH_at⟩, b, r⟩
  cases z : σ[i]? with
  | none => rw [z] at q; cases q
  | some o => rw [z] at q; exact congrArg some (show o = some (.ref D) from q)
theorem mv_grow (j : Nat) : Grow p (mv p (j + 2)) := ⟨by rw [mv_zero (by omega)]; exact Same.uni, mv_ne (by decide) (by omega)⟩
theorem ER.mvd (h : ER K p H σ ρ) (i : Nat) : Uni H (mv p (i + 2)) /\ ∀ j s, j ≠ i -> ρ[j]? = some s -> SlotR K (mv p (i + 2) 0) (mv p (i + 2) (j + 2)) (σ[j]?).join s := by
  refine ⟨h.uni.mv (by omega), fun j s n e => ?_⟩
  rw [mv_ne (k := j + 2) (by omega) (by omega)]
  exact (h.slot j s e).up (mv_grow i).same
theorem ER.set (h : ER K p H σ ρ) (i : Nat) (r : Rep K (p 0) t v) : ER K (mv p (i + 2)) H (σ.set i (some v)) (ρ.set i (.va t)) := by
  obtain ⟨u, sl⟩ := h.mvd i
  refine ⟨u, by rw [List.length_set, List.length_set]; exact h.len, fun j s e => ?_, fun j hj => ?_⟩
  · by_cases q : j = i
    · subst q
      have hj : j < ρ.length := by
        have := (List.getElem?_eq_some_iff.mp e).1
        rw [List.length_set] at this; exact this
      rw [List.getElem?_set_self hj] at e
      cases e
      rw [List.getElem?_set_self (by rw [h.len]; exact hj), mv_at]
      exact ⟨rfl, v, rfl, r.up (mv_grow j).same⟩
    · rw [List.getElem?_set_ne (Ne.symm q)] at e
      rw [List.getElem?_set_ne (Ne.symm q)]
      exact sl j s q e
  · rw [List.length_set] at hj
    by_cases q : j = i
    · rw [q, mv_at]
    · rw [mv_ne (by omega) (by omega)]; exact h.out j hj
theorem ER.setNew (h : ER K p H σ ρ) {xs : List V} (hi : i < ρ.length) (n : H D = none) (r : RepL K (p 0) l xs) :
    ER K (pset (mv p (i + 2)) (i + 2) (oneH D (.lst xs))) (upd H D (.lst xs)) (σ.set i (some (.ref D))) (ρ.set i (.ow D l)) /\ Grow p (pset (mv p (i + 2)) (i + 2) (oneH D (.lst xs))) := by
  obtain ⟨u, sl⟩ := h.mvd i
  have u2 := u.alloc n (i + 2) (.lst xs)
  rw [mv_at] at u2
  have e0 : pset (mv p (i + 2)) (i + 2) (oneH D (.lst xs)) 0 = mv p (i + 2) 0 := pset_ne (by omega)
  refine ⟨⟨u2, by rw [List.length_set, List.length_set]; exact h.len, fun j s e => ?_, fun j hj => ?_⟩, ⟨by rw [e0]; exact (mv_grow i).same, by rw [pset_ne (by omega)]; exact (mv_grow i).fr⟩⟩
  · rw [e0]
    by_cases q : j = i
    · subst q
      rw [List.getElem?_set_self hi] at e
      cases e
      rw [List.getElem?_set_self (by rw [h.len]; exact hi), pset_at]
      exact ⟨xs, rfl, rfl, r.up (mv_grow j).same⟩
    · rw [List.getElem?_set_ne (Ne.symm q)] at e
      rw [List.getElem?_set_ne (Ne.symm q), pset_ne (by omega)]
      exact sl j s q e
  · rw [List.length_set] at hj
    rw [pset_ne (by omega), mv_ne (by omega) (by omega)]; exact h.out j hj
theorem ER.setNewD (h : ER K p H σ ρ) {d : List (Key × Tv)} {xs : List (Key × V)} (hi : i < ρ.length) (n : H D = none) (r : RepD K (p 0) d xs) :
    ER K (pset (mv p (i + 2)) (i + 2) (oneH D (.dK xs))) (upd H D (.dK xs)) (σ.set i (some (.ref D))) (ρ.set i (.od D d)) /\ Grow p (pset (mv p (i + 2)) (i + 2) (oneH D (.dK xs))) := by
  obtain ⟨u, sl⟩ := h.mvd i
  have u2 := u.alloc n (i + 2) (.dK xs)
  rw [mv_at] at u2
  have e0 : pset (mv p (i + 2)) (i + 2) (oneH D (.dK xs)) 0 = mv p (i + 2) 0 := pset_ne (by omega)
  refine ⟨⟨u2, by rw [List.length_set, List.length_set]; exact h.len, fun j s e => ?_, fun j hj => ?_⟩, ⟨by rw [e0]; exact (mv_grow i).same, by rw [pset_ne (by omega)]; exact (mv_grow i).fr⟩⟩
  · rw [e0]
    by_cases q : j = i
    · subst q
      rw [List.getElem?_set_self hi] at e
      cases e
      rw [List.getElem?_set_self (by rw [h.len]; exact hi), pset_at]
      exact ⟨xs, rfl, rfl, r.up (mv_grow j).same⟩
    · rw [List.getElem?_set_ne (Ne.symm q)] at e
      rw [List.getElem?_set_ne (Ne.symm q), pset_ne (by omega)]
      exact sl j s q e
  · rw [List.length_set] at hj
    rw [pset_ne (by omega), mv_ne (by omega) (by omega)]; exact h.out j hj
theorem ER.putOwn (h : ER K p H σ ρ) {xs : List V} {l' : List Tv} (e : ρ[i]? = some (.ow D l)) (r : RepL K (p 0) l' xs) :
    ER K (pset p (i + 2) (oneH D (.lst xs))) (upd H D (.lst xs)) σ (ρ.set i (.ow D l')) /\ Grow p (pset p (i + 2) (oneH D (.lst xs))) := by
  obtain ⟨ys, e1, e2, e3, _⟩ := h.own e
  have hD : p (i + 2) D = some (.lst ys) := by rw [e3]; exact oneH_at
  have u := h.uni.put (i := i + 2) (a := D) (fun j hj => h.uni.other hD hj) (.lst xs)
  have eo : upd (p (i + 2)) D (.lst xs) = oneH D (.lst xs) := by rw [e3]; exact upd_upd
  rw [eo] at u
  have e0 : pset p (i + 2) (oneH D (.lst xs)) 0 = p 0 := pset_ne (by omega)
  have hi : i < ρ.length := (List.getElem?_eq_some_iff.mp e).1
  refine ⟨⟨u, by rw [List.length_set]; exact h.len, fun j s q => ?_, fun j hj => ?_⟩, ⟨by rw [e0]; exact Same.refl _, pset_ne (by omega)⟩⟩
  · rw [e0]
    by_cases z : j = i
    · subst z
      rw [List.getElem?_set_self hi] at q
      cases q
      rw [e1, pset_at]
      exact ⟨xs, rfl, rfl, r⟩
    · rw [List.getElem?_set_ne (Ne.symm z)] at q
      rw [pset_ne (by omega)]
      exact h.slot j s q
  · rw [List.length_set] at hj
    rw [pset_ne (by omega)]; exact h.out j hj
theorem ER.putOwnD (h : ER K p H σ ρ) {xs : List (Key × V)} {d l' : List (Key × Tv)} (e : ρ[i]? = some (.od D d)) (r : RepD K (p 0) l' xs) :
    ER K (pset p (i + 2) (oneH D (.dK xs))) (upd H D (.dK xs)) σ (ρ.set i (.od D l')) /\ Grow p (pset p (i + 2) (oneH D (.dK xs))) := by
  obtain ⟨ys, e1, e2, e3, _⟩ := h.ownD e
  have hD : p (i + 2) D = some (.dK ys) := by rw [e3]; exact oneH_at
  have u := h.uni.put (i := i + 2) (a := D) (fun j hj => h.uni.other hD hj) (.dK xs)
  have eo : upd (p (i + 2)) D (.dK xs) = oneH D (.dK xs) := by rw [e3]; exact upd_upd
  rw [eo] at u
  have e0 : pset p (i + 2) (oneH D (.dK xs)) 0 = p 0 := pset_ne (by omega)
  have hi : i < ρ.length := (List.getElem?_eq_some_iff.mp e).1
  refine ⟨⟨u, by rw [List.length_set]; exact h.len, fun j s q => ?_, fun j hj => ?_⟩, ⟨by rw [e0]; exact Same.refl _, pset_ne (by omega)⟩⟩
  · rw [e0]
    by_cases z : j = i
    · subst z
      rw [List.getElem?_set_self hi] at q
      cases q
      rw [e1, pset_at]
      exact ⟨xs, rfl, rfl, r⟩
    · rw [List.getElem?_set_ne (Ne.symm z)] at q
      rw [pset_ne (by omega)]
      exact h.slot j s q
  · rw [List.length_set] at hj
    rw [pset_ne (by omega)]; exact h.out j hj
def frzAt (i : Nat) (ρ : En) : En := match ρ[i]? with | some (.ow D l) => ρ.set i (.va (.lst l)) | some (.od D d) => ρ.set i (.va (.dic (d.map (·.1)) (d.map (·.2)))) | _ => ρ
theorem ER.frz (h : ER K p H σ ρ) (i : Nat) : ∃ p', ER K p' H σ (frzAt i ρ) /\ Grow p p' := by
  have go : ∀ {D : Addr} {t : Tv} {s : Sl}, ρ[i]? = some s -> σ[i]? = some (some (.ref D)) -> Rep K (mv p (i + 2) 0) t (.ref D) -> ∃ p', ER K p' H σ (ρ.set i (.va t)) /\ Grow p p' := fun {D t s} e e1 r' => by
    obtain ⟨u, sl⟩ := h.mvd i
    have hi : i < ρ.length := (List.getElem?_eq_some_iff.mp e).1
    refine ⟨mv p (i + 2), ⟨u, by rw [List.length_set]; exact h.len, fun j s q => ?_, fun j hj => ?_⟩, mv_grow i⟩
    · by_cases z : j = i
      · subst z
        rw [List.getElem?_set_self hi] at q
        cases q
        rw [e1, mv_at]
        exact ⟨rfl, _, rfl, r'⟩
      · rw [List.getElem?_set_ne (Ne.symm z)] at q
        exact sl j s z q
    · rw [List.length_set] at hj
      by_cases z : j = i
      · rw [z, mv_at]
      · rw [mv_ne (by omega) (by omega)]; exact h.out j hj
  unfold frzAt
  split
  · rename_i D l e
    obtain ⟨xs, e1, e2, e3, r⟩ := h.own e
    exact go e e1 (rep_lst.mpr ⟨D, xs, rfl, by
      rw [mv_zero (by omega)]
      unfold uniH
      have hD : p (i + 2) D = some (.lst xs) := by rw [e3]; exact oneH_at
      rw [h.uni.other hD (by omega)]; exact hD, r.up (mv_grow i).same⟩)
  · rename_i D d e
    obtain ⟨xs, e1, e2, e3, r⟩ := h.ownD e
    exact go e e1 ((r.up (mv_grow i).same).dic (by
      rw [mv_zero (by omega)]
      unfold uniH
      have hD : p (i + 2) D = some (.dK xs) := by rw [e3]; exact oneH_at
      rw [h.uni.other hD (by omega)]; exact hD))
  · exact ⟨p, h, .refl⟩
theorem ER.less (h : ER K p H σ ρ') (hl : ρ.length = ρ'.length) (hs : ∀ (j : Nat) (s : Sl), ρ[j]? = some s -> (s = .un /\ ∀ s', ρ'[j]? = some s' -> s'.mine = false) ∨ ρ'[j]? = some s) : ER K p H σ ρ := by
  refine ⟨h.uni, h.len.trans hl.symm, fun j s e => ?_, fun j hj => h.out j (by omega)⟩
  rcases hs j s e with ⟨rfl, n⟩ | q
  · have hj : j < ρ'.length := by rw [← hl]; exact (List.getElem?_eq_some_iff.mp e).1
    have q := h.slot j _ (List.getElem?_eq_getElem hj)
    cases z : ρ'[j] with
    | un => rw [z] at q; exact q
    | va t => rw [z] at q; exact q.1
    | ow D l => cases n (.ow D l) (by rw [List.getElem?_eq_getElem hj, z])
    | od D d => cases n (.od D d) (by rw [List.getElem?_eq_getElem hj, z])
  · exact h.slot j s q
end
end L2
set_option Elab.async false
set_option linter.all false
set_option maxRecDepth 100000
set_option maxHeartbeats 4000000
namespace L2
open PySem PySem.Spec PyProof.Rows
inductive Ans (α : Type) where
  | ok (a : α) | er (c : Addr)
abbrev Mv (α : Type) := En -> (Ans α -> En -> Prop) -> Prop
inductive Fl where
  | nx | rt (r : Sl) | bk | ct | er (c : Addr)
abbrev Sv := En -> (Fl -> En -> Prop) -> Prop
abbrev Ct := List Tv -> (Ans Sl -> Prop) -> Prop
def bindK {α β : Type} (k : α -> Mv β) (P : Ans β -> En -> Prop) : Ans α -> En -> Prop := fun a ρ1 => match a with | .ok x => k x ρ1 P | .er c => P (.er c) ρ1
def vBind {α β : Type} (m : Mv α) (k : α -> Mv β) : Mv β := fun ρ P => m ρ (bindK k P)
def vVar (i : Nat) : Mv Tv := fun ρ P => match ρ[i]? with | some (.va t) => P (.ok t) ρ | _ => False
def vC (t : Tv) : Mv Tv := fun ρ P => P (.ok t) ρ
def vOp (W : Tv -> Tv -> (Tv -> Prop) -> Prop) (a b : Mv Tv) : Mv Tv := vBind a fun x => vBind b fun y ρ P => W x y fun t => P (.ok t) ρ
def vUn (W : Tv -> (Tv -> Prop) -> Prop) (a : Mv Tv) : Mv Tv := vBind a fun x ρ P => W x fun t => P (.ok t) ρ
def vArgs : List (Mv Tv) -> Mv (List Tv)
  | [] => fun ρ P => P (.ok []) ρ
  | m :: ms => vBind m fun x => vBind (vArgs ms) fun xs ρ P => P (.ok (x :: xs)) ρ
def vTup (ms : List (Mv Tv)) : Mv Tv := vBind (vArgs ms) fun xs ρ P => P (.ok (.tup xs)) ρ
def vLst (ms : List (Mv Tv)) : Mv Tv := vBind (vArgs ms) fun xs ρ P => P (.ok (.lst xs)) ρ
def vFn (W : List Tv -> (Tv -> Prop) -> Prop) (ms : List (Mv Tv)) : Mv Tv := vBind (vArgs ms) fun xs ρ P => W xs fun t => P (.ok t) ρ
def callK (ρ : En) (P : Ans Tv -> En -> Prop) : Ans Sl -> Prop := fun a => match a with | .ok (.va t) => P (.ok t) ρ | .ok (.ow _ l) => P (.ok (.lst l)) ρ | .ok (.od _ d) => P (.ok (.dic (d.map (·.1)) (d.map (·.2)))) ρ | .ok .un => False | .er c => P (.er c) ρ
def vCall (C : Ct) (ms : List (Mv Tv)) : Mv Tv := vBind (vArgs ms) fun xs ρ P => C xs (callK ρ P)
def vIf {α : Type} (c : Mv Bool) (a b : Mv α) : Mv α := vBind c fun x => if x then a else b
def vTest (W : Tv -> (Bool -> Prop) -> Prop) (m : Mv Tv) : Mv Bool := vBind m fun x ρ P => W x fun t => P (.ok t) ρ
def vAnd (a b : Mv Bool) : Mv Bool := vBind a fun x => if x then b else fun ρ P => P (.ok false) ρ
def vOr (a b : Mv Bool) : Mv Bool := vBind a fun x => if x then fun ρ P => P (.ok true) ρ else b
def vNot (a : Mv Bool) : Mv Bool := vBind a fun x ρ P => P (.ok (!x)) ρ
def vYes : Mv Bool := fun ρ P => P (.ok true) ρ
def vAndV (a b : Mv Tv) : Mv Tv := vBind a fun x => match x with | .bl c => (if c = true then b else fun ρ P => P (.ok (.bl false)) ρ) | _ => fun _ _ => False
def vNotV (a : Mv Tv) : Mv Tv := vBind a fun x => match x with | .bl b => fun ρ P => P (.ok (.bl (!b))) ρ | _ => fun _ _ => False
def vSeqI (m : Mv Tv) : Mv (List Tv) := vBind m fun x => match x with | .tup l => fun ρ P => P (.ok l) ρ | .lst l => fun ρ P => P (.ok l) ρ | .scr l => fun ρ P => P (.ok l) ρ | _ => fun _ _ => False
def rngL (lo : Int) (n : Nat) : List Tv := (List.range n).map fun (k : Nat) => Tv.int (lo + k)
def vRng (m : Mv Tv) : Mv (List Tv) := vBind (vArgs [m]) fun x => match x with | [.int j] => fun ρ P => (-(2 ^ 62) <= j /\ j < 2 ^ 62) /\ P (.ok (rngL 0 j.toNat)) ρ | _ => fun _ _ => False
def enumL (l : List Tv) : List Tv := l.mapIdx fun i t => .tup [.int i, t]
def vEnumL (m : Mv Tv) : Mv (List Tv) := vBind (vArgs [m]) fun x => match x with | [.lst l] => fun ρ P => P (.ok (enumL l)) ρ | _ => fun _ _ => False
def vEnumT (m : Mv Tv) : Mv (List Tv) := vBind (vArgs [m]) fun x => match x with | [.tup l] => fun ρ P => P (.ok (enumL l)) ρ | _ => fun _ _ => False
def zipL (a b : List Tv) : List Tv := List.zipWith (fun x y => .tup [x, y]) a b
def ofK (k : Bool) : Tv -> Option (List Tv)
  | .tup l => if k then some l else none
  | .lst l => if k then none else some l
  | .scr l => if k then none else some l
  | _ => none
def vZip (k1 k2 : Bool) (a b : Mv Tv) : Mv (List Tv) := vBind (vArgs [a, b]) fun x => match x with | [x, y] => (match ofK k1 x, ofK k2 y with | some l, some m => fun ρ P => P (.ok (zipL l m)) ρ | _, _ => fun _ _ => False) | _ => fun _ _ => False
abbrev Gv := Tv -> En -> Option En
def gV (i : Nat) : Gv := fun t ρ => some (ρ.set i (.va t))
def setAll : List Nat -> List Tv -> En -> En
  | i :: is, t :: ts, ρ => setAll is ts (ρ.set i (.va t))
  | _, _, ρ => ρ
def gT (is : List Nat) : Gv := fun t ρ => match t with | .tup l => if l.length = is.length then some (setAll is l ρ) else none | _ => none
def compW (g : Gv) (c : Mv Bool) (e : Mv Tv) (ρ0 : En) : List Tv -> List Tv -> (List Tv -> Prop) -> Prop
  | [], acc, P => P acc
  | x :: xs, acc, P => ∃ ρ, g x ρ0 = some ρ /\ c ρ fun b ρ1 => ρ1 = ρ /\ match b with
    | .ok true => e ρ fun r ρ2 => ρ2 = ρ /\ match r with | .ok y => compW g c e ρ0 xs (acc ++ [y]) P | .er _ => False
    | .ok false => compW g c e ρ0 xs acc P
    | .er _ => False
def capt (nt : Nat) (js : List Nat) (ρ : En) : En := List.replicate nt .un ++ js.map fun j => match ρ[j]? with | some (.va t) => .va t | _ => .un
def vComp (nt : Nat) (js : List Nat) (it : Mv (List Tv)) (g : Gv) (c : Mv Bool) (e : Mv Tv) : Mv Tv :=
  vBind it fun xs ρ P => xs.length < sizeLine /\ compW g c e (capt nt js ρ) xs [] fun ys => P (.ok (.lst ys)) ρ
def vNext : Sv := fun ρ P => P .nx ρ
def seqK (b : Sv) (P : Fl -> En -> Prop) : Fl -> En -> Prop := fun f ρ1 => match f with | .nx => b ρ1 P | .rt r => P (.rt r) ρ1 | .bk => P .bk ρ1 | .ct => P .ct ρ1 | .er c => P (.er c) ρ1
def vSeq (a b : Sv) : Sv := fun ρ P => a ρ (seqK b P)
def doK {α : Type} (k : α -> Sv) (P : Fl -> En -> Prop) : Ans α -> En -> Prop := fun a ρ1 => match a with | .ok x => k x ρ1 P | .er c => P (.er c) ρ1
def vDo {α : Type} (m : Mv α) (k : α -> Sv) : Sv := fun ρ P => m ρ (doK k P)
def vSet (i : Nat) (m : Mv Tv) : Sv := vDo m fun t ρ P => P .nx (ρ.set i (.va t))
def vAsg (g : Gv) (m : Mv Tv) : Sv := vDo m fun t ρ P => ∃ ρ', g t ρ = some ρ' /\ P .nx ρ'
def vPar (i j : Nat) (a b : Mv Tv) : Sv := vDo (vArgs [a, b]) fun ts ρ P => match ts with | [x, y] => P .nx ((ρ.set i (.va x)).set j (.va y)) | _ => False
def vRet (m : Mv Tv) : Sv := vDo m fun t ρ P => P (.rt (.va t)) ρ
def vIfS (c : Mv Bool) (a b : Sv) : Sv := vDo c fun x => if x then a else b
def vNewL (i : Nat) (ms : List (Mv Tv)) : Sv := vDo (vArgs ms) fun xs ρ P => ∀ D, P .nx (ρ.set i (.ow D xs))
def vApp (i : Nat) (m : Mv Tv) : Sv := fun ρ P => match ρ[i]? with
  | some (.ow _ _) => vDo m (fun t ρ P => match ρ[i]? with | some (.ow D l) => l.length < sizeLine /\ P .nx (ρ.set i (.ow D (l ++ [t]))) | _ => False) ρ P
  | _ => False
def vPut (i : Nat) (k m : Mv Tv) : Sv := vDo m fun t ρ P => match ρ[i]? with
  | some (.ow _ _) => vDo k (fun x ρ P => match x, ρ[i]? with
    | .int n, some (.ow D l) => (match ixN l.length n with | some j => P .nx (ρ.set i (.ow D (l.set j t))) | none => False)
    | _, _ => False) ρ P
  | _ => False
def vFrz (i : Nat) (s : Sv) : Sv := fun ρ P => s (frzAt i ρ) P
def turnK (K : En -> Prop) (P : Fl -> En -> Prop) : Fl -> En -> Prop := fun f ρ2 => match f with | .nx => K ρ2 | .ct => K ρ2 | .bk => P .nx ρ2 | .rt r => P (.rt r) ρ2 | .er c => P (.er c) ρ2
def forW (g : Gv) (b : Sv) : List Tv -> Sv
  | [] => fun ρ P => P .nx ρ
  | x :: xs => fun ρ P => ∃ ρ', g x ρ = some ρ' /\ b ρ' (turnK (fun ρ2 => forW g b xs ρ2 P) P)
def vFor (it : Mv (List Tv)) (g : Gv) (b : Sv) : Sv := vDo it fun xs => forW g b xs
def vWhile (c : Mv Bool) (b : Sv) : Sv := fun ρ P => ∃ W : Nat -> En -> Prop, (∃ m, W m ρ) /\ ∀ m ρ, W m ρ -> c ρ fun a ρ1 => match a with
  | .ok x => (if x = true then fun ρ1 => b ρ1 (turnK (fun ρ2 => ∃ m', m' < m /\ W m' ρ2) P) else fun ρ1 => P .nx ρ1) ρ1
  | .er c => P (.er c) ρ1
def bodyK (P : Ans Sl -> Prop) : Fl -> En -> Prop := fun f _ => match f with | .rt r => P (.ok r) | .nx => P (.ok (.va .non)) | .er c => P (.er c) | .bk => False | .ct => False
def bodyC (n : Nat) (b : Sv) : Ct := fun ts P => b (ts.map Sl.va ++ List.replicate (n - ts.length) Sl.un) (bodyK P)
section
variable {K : PySem.W.Frag} {E : St -> XK}
def tA {α β : Type} (K : PySem.W.Frag) (E : St -> XK) (R : Hp -> α -> β -> Prop) (m : Mv α) (p : Pts) (ρ : En) (σ : St) (Q : β -> Hp -> Prop) : Prop :=
  ∃ P, m ρ P /\ (∀ a ρ', P (.ok a) ρ' -> ∀ v p' H', Grow p p' -> ER K p' H' σ ρ' -> R (p' 0) a v -> Q v H') /\ (∀ c ρ', P (.er c) ρ' -> ∀ p' H', Grow p p' -> ER K p' H' σ ρ' -> E σ (.ref c) none H')
def tG {α β : Type} (K : PySem.W.Frag) (E : St -> XK) (R : Hp -> α -> β -> Prop) (m : Mv α) (σ : St) (H : Hp) (Q : β -> Hp -> Prop) : Prop := ∃ p ρ, ER K p H σ ρ /\ tA K E R m p ρ σ Q
abbrev RB : Hp -> Bool -> Bool -> Prop := fun _ a b => b = a
def tV (K : PySem.W.Frag) (E : St -> XK) (m : Mv Tv) : TE := tG K E (Rep K) m
def tVs (K : PySem.W.Frag) (E : St -> XK) (m : Mv (List Tv)) : TA := tG K E (RepL K) m
def tVt (K : PySem.W.Frag) (E : St -> XK) (m : Mv Bool) : TT := tG K E RB m
def tVa (K : PySem.W.Frag) (E : St -> XK) (ms : List (Mv Tv)) : TA := fun σ H Q => tVs K E (vArgs ms) σ H fun vs H' => vs.length = ms.length -> Q vs H'
theorem tA.mono {α β : Type} {R : Hp -> α -> β -> Prop} {m : Mv α} {p : Pts} {ρ : En} {σ : St} {Q Q' : β -> Hp -> Prop} (h : tA K E R m p ρ σ Q) (k : ∀ v H, Q v H -> Q' v H) : tA K E R m p ρ σ Q' :=
  let ⟨P, a, b, c⟩ := h; ⟨P, a, fun x ρ' q v p' H' g e r => k _ _ (b x ρ' q v p' H' g e r), c⟩
theorem tA.bind {α β γ δ : Type} {R1 : Hp -> α -> β -> Prop} {R2 : Hp -> γ -> δ -> Prop} {m : Mv α} {k : α -> Mv γ} {p : Pts} {ρ : En} {σ : St} {Q : δ -> Hp -> Prop} (h : tA K E R2 (vBind m k) p ρ σ Q) :
    tA K E R1 m p ρ σ (fun v H1 => ∃ x p1 ρ1, Grow p p1 /\ ER K p1 H1 σ ρ1 /\ R1 (p1 0) x v /\ tA K E R2 (k x) p1 ρ1 σ Q) := by
  obtain ⟨P, a, b, c⟩ := h
  refine ⟨_, a, fun x ρ' q v p' H' g e r => ⟨x, p', ρ', g, e, r, P, q, fun y ρ2 q2 v2 p2 H2 g2 => b y ρ2 q2 v2 p2 H2 (g.trans g2), fun y ρ2 q2 p2 H2 g2 => c y ρ2 q2 p2 H2 (g.trans g2)⟩, fun x ρ' q p' H' g e => c x ρ' q p' H' g e⟩
theorem tA.pure {α β : Type} {R : Hp -> α -> β -> Prop} {x : α} {p : Pts} {ρ : En} {σ : St} {H : Hp} {v : β} {Q : β -> Hp -> Prop} (h : tA K E R (fun ρ P => P (.ok x) ρ) p ρ σ Q) (e : ER K p H σ ρ) (r : R (p 0) x v) : Q v H :=
  let ⟨_, a, b, _⟩ := h; b x ρ a v p H .refl e r
end
section
variable {X : Cx} {K : PySem.W.Frag} {E : St -> XK}
theorem PE.imp {e : Expr} {t t' : TE} (h : PE X e t) (k : ∀ σ H Q, t' σ H Q -> t σ H Q) : PE X e t' := fun pins s σ H Q I q => h pins s σ H Q I (k σ H Q q)
theorem PT.imp {e : Expr} {t t' : TT} (h : PT X e t) (k : ∀ σ H Q, t' σ H Q -> t σ H Q) : PT X e t' := fun pins s σ H Q I q => h pins s σ H Q I (k σ H Q q)
theorem PW.imp {e : Expr} {t t' : TT} (h : PW X e t) (k : ∀ σ H Q, t' σ H Q -> t σ H Q) : PW X e t' := fun w pins s σ H Q I q => h w pins s σ H Q I (k σ H Q q)
theorem PA.imp {e : List Expr} {t t' : TA} (h : PA X e t) (k : ∀ σ H Q, t' σ H Q -> t σ H Q) : PA X e t' := fun pos pins s σ H Q I q => h pos pins s σ H Q I (k σ H Q q)
theorem PS.imp {e : Stmt} {t t' : TS} (h : PS X e t) (k : ∀ D σ H, t' D σ H -> t D σ H) : PS X e t' := fun pins s σ H D I q => h pins s σ H D I (k D σ H q)
theorem PSs.imp {e : List Stmt} {t t' : TS} (h : PSs X e t) (k : ∀ D σ H, t' D σ H -> t D σ H) : PSs X e t' := fun pins s σ H D I q => h pins s σ H D I (k D σ H q)
theorem PI.imp {tg e : Expr} {t t' : TI} (h : PI X tg e t) (k : ∀ σ H R, t' σ H R -> t σ H R) : PI X tg e t' := fun pins s σ H R I q => h pins s σ H R I (k σ H R q)
theorem PIf.imp {e : List Expr} {t t' : TT} (h : PIf X e t) (k : ∀ σ H Q, t' σ H Q -> t σ H Q) : PIf X e t' := fun pins s σ H Q I q => h pins s σ H Q I (k σ H Q q)
theorem v_var {i : Nat} {x : Str} {pos : Pos} (hN : X.N[i]? = some x) (hv : Vis X.env.scope x) (hd : (x == ("__debug__" : Str)) = false := by decide) (hcd : (x == ("__classdict__" : Str)) = false := by decide) : PE X (.Name x pos) (tV K E (vVar i)) :=
  (pe_var hN hv hd hcd).imp fun σ H Q ⟨p, ρ, er, P, a, b, _⟩ => by
    unfold vVar at a
    split at a
    · rename_i t e
      obtain ⟨v, h1, h2⟩ := er.get e
      exact ⟨v, h1, b t ρ a v p H .refl er h2⟩
    · exact a.elim
theorem v_const {e : Expr} {t : Tv} {v : V} (h : PE X e (tC v)) (r : ∀ G, Rep K G t v) : PE X e (tV K E (vC t)) :=
  h.imp fun σ H Q ⟨p, ρ, er, P, a, b, _⟩ => b t ρ a v p H .refl er (r _)
theorem v_int {i : Int} {j : Nat} {pos : Pos} : PE X (.Constant (.int i) j pos) (tV K E (vC (.int i))) := v_const pe_int fun _ => rep_int.mpr rfl
theorem v_bl {b : Bool} {j : Nat} {pos : Pos} : PE X (.Constant (.bool b) j pos) (tV K E (vC (.bl b))) := v_const pe_bl fun _ => rep_bl.mpr rfl
theorem v_non {j : Nat} {pos : Pos} : PE X (.Constant .none j pos) (tV K E (vC .non)) := v_const pe_non fun _ => rep_non.mpr rfl
theorem v_str {x : Str} {j : Nat} {pos : Pos} : PE X (.Constant (.str x) j pos) (tV K E (vC (.str x))) := v_const pe_str fun _ => rep_str.mpr rfl
theorem v_glob {x : Str} {v : V} {u : Value} {t : Tv} {pos : Pos} (hg : Gl X x) (hm : X.mg x = some u) (r : RelV v u) (hr : ∀ G, Rep K G t v) (hd : (x == ("__debug__" : Str)) = false := by decide) : PE X (.Name x pos) (tV K E (vC t)) := v_const (pe_glob hg hm r hd) hr
theorem v_ty {x : Str} {T : String} {pos : Pos} (hg : Gl X x) (hm : X.mg x = none) (hv : bootBuiltins x = some (.type T)) (hn : x ≠ "__name__" := by decide) (hd : (x == ("__debug__" : Str)) = false := by decide) : PE X (.Name x pos) (tV K E (vC (.ty T))) := v_const (pe_bltn (v := .ty T) hg hm hv rfl hn hd) fun _ => rep_ty.mpr rfl
def rV (K : PySem.W.Frag) (W : Tv -> Tv -> (Tv -> Prop) -> Prop) : R2 := fun x y H Q => ∃ p a b P, Uni H p /\ Rep K (p 0) a x /\ Rep K (p 0) b y /\ W a b P /\ ∀ t, P t -> ∀ v G' H', Same (p 0) G' -> Uni H' (pset p 0 G') -> Rep K G' t v -> Q v H'
def rV1 (K : PySem.W.Frag) (W : Tv -> (Tv -> Prop) -> Prop) : V -> Hp -> VK -> Prop := fun x H Q => ∃ p a P, Uni H p /\ Rep K (p 0) a x /\ W a P /\ ∀ t, P t -> ∀ v G' H', Same (p 0) G' -> Uni H' (pset p 0 G') -> Rep K G' t v -> Q v H'
def rVs (K : PySem.W.Frag) (W : List Tv -> (Tv -> Prop) -> Prop) : List V -> Hp -> VK -> Prop := fun xs H Q => ∃ p l P, Uni H p /\ RepL K (p 0) l xs /\ W l P /\ ∀ t, P t -> ∀ v G' H', Same (p 0) G' -> Uni H' (pset p 0 G') -> Rep K G' t v -> Q v H'
theorem tail_W {W : (Tv -> Prop) -> Prop} {p : Pts} {ρ : En} {σ : St} {H : Hp} {Q : VK} (er : ER K p H σ ρ) (h : tA K E (Rep K) (fun ρ P => W fun t => P (.ok t) ρ) p ρ σ Q) : ∃ P, W P /\ ∀ t, P t -> ∀ v G' H', Same (p 0) G' -> Uni H' (pset p 0 G') -> Rep K G' t v -> Q v H' := by
  obtain ⟨P, a, b, _⟩ := h
  exact ⟨_, a, fun t q v G' H' s u r => b t ρ q v _ H' (grow0 s) (er.grow s u) (by rw [pset_at]; exact r)⟩
theorem op_tail {W : Tv -> Tv -> (Tv -> Prop) -> Prop} {ma mb : Mv Tv} : ∀ σ H Q, tV K E (vOp W ma mb) σ H Q -> tOp (rV K W) (tV K E ma) (tV K E mb) σ H Q := fun σ H Q ⟨p, ρ, er, h⟩ =>
  ⟨p, ρ, er, h.bind.mono fun v H1 ⟨x, p1, ρ1, g1, er1, r1, h1⟩ => ⟨p1, ρ1, er1, h1.bind.mono fun u H2 ⟨y, p2, ρ2, g2, er2, r2, h2⟩ =>
    let ⟨P, a, b⟩ := tail_W er2 h2; ⟨p2, x, y, P, er2.uni, r1.up g2.same, r2, a, b⟩⟩⟩
theorem v_op {W : Tv -> Tv -> (Tv -> Prop) -> Prop} {op : Operator} {a b : Expr} {ma mb : Mv Tv} {pos : Pos} (ho : OpR X (binaryOp op) (rV K W)) (ha : PE X a (tV K E ma)) (hb : PE X b (tV K E mb)) : PE X (.BinOp a op b pos) (tV K E (vOp W ma mb)) := (pe_op ho ha hb).imp op_tail
theorem v_cmp {W : Tv -> Tv -> (Tv -> Prop) -> Prop} {op : CmpOp} {a b : Expr} {ma mb : Mv Tv} {pos : Pos} (ho : OpR X (compareOp op) (rV K W)) (ha : PE X a (tV K E ma)) (hb : PE X b (tV K E mb)) (hm : behindInMarks op b = false) : PE X (.Compare a [op] [b] pos) (tV K E (vOp W ma mb)) := (pe_cmpR ho ha hb hm).imp op_tail
theorem v_ix {W : Tv -> Tv -> (Tv -> Prop) -> Prop} {a b : Expr} {ma mb : Mv Tv} {pos : Pos} (ho : IxR X (rV K W)) (ha : PE X a (tV K E ma)) (hb : PE X b (tV K E mb)) (hs : PlainIx b) : PE X (.Subscript a b pos) (tV K E (vOp W ma mb)) := (pe_ix ho ha hb hs).imp op_tail
theorem v_un {W : Tv -> (Tv -> Prop) -> Prop} {op : UnaryOp} {a : Expr} {ma : Mv Tv} {pos : Pos} (ho : UnR X (unaryOp op) (rV1 K W)) (ha : PE X a (tV K E ma)) : PE X (.UnaryOp op a pos) (tV K E (vUn W ma)) :=
  (pe_un ho ha).imp fun σ H Q ⟨p, ρ, er, h⟩ => ⟨p, ρ, er, h.bind.mono fun v H1 ⟨x, p1, ρ1, g1, er1, r1, h1⟩ => let ⟨P, a, b⟩ := tail_W er1 h1; ⟨p1, x, P, er1.uni, r1, a, b⟩⟩
def wBl (W : Tv -> Tv -> (Tv -> Prop) -> Prop) : Tv -> Tv -> (Bool -> Prop) -> Prop := fun x y k => W x y fun t => match t with | .bl b => k b | _ => False
def vCmp (W : Tv -> Tv -> (Tv -> Prop) -> Prop) (a b : Mv Tv) : Mv Bool := vBind a fun x => vBind b fun y ρ P => wBl W x y fun t => P (.ok t) ρ
theorem vt_cmp {W : Tv -> Tv -> (Tv -> Prop) -> Prop} {op : CmpOp} {a b : Expr} {ma mb : Mv Tv} {pos : Pos} (ho : OpR X (compareOp op) (rV K W)) (ha : PE X a (tV K E ma)) (hb : PE X b (tV K E mb)) (hm : behindInMarks op b = false) : PT X (.Compare a [op] [b] pos) (tVt K E (vCmp W ma mb)) :=
  (pt_cmpR ho ha hb hm).imp fun σ H Q ⟨p, ρ, er, h⟩ => ⟨p, ρ, er, h.bind.mono fun v H1 ⟨x, p1, ρ1, g1, er1, r1, h1⟩ => ⟨p1, ρ1, er1, h1.bind.mono fun u H2 ⟨y, p2, ρ2, g2, er2, r2, P, a, b, _⟩ =>
    ⟨p2, x, y, _, er2.uni, r1.up g2.same, r2, a, fun t q v G' H' s u r => by
      cases t with
      | bl k => exact ⟨k, rep_bl.mp r, b k ρ2 q k _ H' (grow0 s) (er2.grow s u) rfl⟩
      | _ => exact q.elim⟩⟩⟩
def truT : Tv -> (Bool -> Prop) -> Prop
  | .non, k => k false
  | .bl b, k => k b
  | .int i, k => k (i != 0)
  | .str y, k => y.length <= sizeLine /\ k ((y.length : Int) != 0)
  | .tup l, k => k (!l.isEmpty)
  | .lst l, k => k (!l.isEmpty)
  | .scr l, k => k (!l.isEmpty)
  | _, _ => False
theorem RepL.emp {G : Hp} {l : List Tv} {xs : List V} (h : RepL K G l xs) : xs.isEmpty = l.isEmpty := by
  have := h.len
  cases l <;> cases xs <;> simp at this ⊢
theorem tru_of {x : Tv} {v : V} {p : Pts} {H : Hp} {k : Bool -> Prop} (u : Uni H p) (r : Rep K (p 0) x v) (h : truT x k) : ∃ b, TruV K v H b /\ k b := by
  cases x with
  | non => rw [rep_non.mp r]; exact ⟨_, rfl, h⟩
  | bl b => rw [rep_bl.mp r]; exact ⟨_, rfl, h⟩
  | int i => rw [rep_int.mp r]; exact ⟨_, rfl, h⟩
  | str y => rw [rep_str.mp r]; exact ⟨_, ⟨h.1, rfl⟩, h.2⟩
  | tup l =>
    obtain ⟨a, xs, rfl, s, q⟩ := rep_tupS r
    exact ⟨_, .inr (.inl ⟨xs, (u.sub 0).seqT s, rfl⟩), by rw [q.emp]; exact h⟩
  | lst l =>
    obtain ⟨a, xs, rfl, s, q⟩ := rep_lst.mp r
    exact ⟨_, .inl ⟨xs, SqL.of (u.sub 0 _ _ s), rfl⟩, by rw [q.emp]; exact h⟩
  | scr l =>
    obtain ⟨a, xs, rfl, s, q⟩ := rep_scr.mp r
    exact ⟨_, .inl ⟨xs, (u.sub 0).seq s, rfl⟩, by rw [q.emp]; exact h⟩
  | _ => exact h.elim
theorem vt_tru {a : Expr} {m : Mv Tv} (hK : X.K = K) (ha : PE X a (tV K E m)) (he : ∀ whole, isTrue a X.env whole = (do let v ← whole; standAt a.pos; holding [v] (truthy v)) := by intro _; rfl) : PT X a (tVt K E (vTest truT m)) := by
  subst hK
  exact (pt_truth ha he).imp fun σ H Q ⟨p, ρ, er, h⟩ => ⟨p, ρ, er, h.bind.mono fun v H1 ⟨x, p1, ρ1, g1, er1, r1, P, a, b, _⟩ =>
    let ⟨k, h1, h2⟩ := tru_of er1.uni r1 a; ⟨k, h1, b k ρ1 h2 k p1 H1 .refl er1 rfl⟩⟩
theorem vt_not {a : Expr} {m : Mv Bool} {pos : Pos} (ha : PT X a (tVt K E m)) : PT X (.UnaryOp .Not a pos) (tVt K E (vNot m)) :=
  (pt_not ha).imp fun σ H Q ⟨p, ρ, er, h⟩ => ⟨p, ρ, er, h.bind.mono fun v H1 ⟨x, p1, ρ1, g1, er1, r1, P, a, b, _⟩ => b _ ρ1 a _ p1 H1 .refl er1 (congrArg (!·) r1)⟩
theorem if_tail {α β : Type} {R : Hp -> α -> β -> Prop} {m : Mv Bool} {a b : Mv α} {σ : St} {H : Hp} {Q : β -> Hp -> Prop} (h : tG K E R (vIf m a b) σ H Q) : tVt K E m σ H fun c H1 => if c = true then tG K E R a σ H1 Q else tG K E R b σ H1 Q :=
  let ⟨p, ρ, er, h⟩ := h; ⟨p, ρ, er, h.bind.mono fun v H1 ⟨x, p1, ρ1, g1, er1, r1, h1⟩ => by
    have r1 : v = x := r1
    subst r1
    cases v with
    | true => exact ⟨p1, ρ1, er1, h1⟩
    | false => exact ⟨p1, ρ1, er1, h1⟩⟩
theorem yes_tail {b : Bool} {σ : St} {H : Hp} {Q : Bool -> Hp -> Prop} (h : tVt K E (fun ρ P => P (.ok b) ρ) σ H Q) : Q b H := let ⟨_, _, er, h⟩ := h; h.pure er rfl
theorem vw_and1 {a : Expr} {m : Mv Bool} {pos : Pos} (ha : PT X a (tVt K E m)) : PW X (.BoolOp .And [a] pos) (tVt K E m) := pw_and1 ha
theorem vw_or1 {a : Expr} {m : Mv Bool} {pos : Pos} (ha : PT X a (tVt K E m)) : PW X (.BoolOp .Or [a] pos) (tVt K E m) := pw_or1 ha
theorem vw_and {a b : Expr} {rest : List Expr} {m n : Mv Bool} {pos : Pos} (ha : PT X a (tVt K E m)) (hb : PW X (.BoolOp .And (b :: rest) pos) (tVt K E n)) : PW X (.BoolOp .And (a :: b :: rest) pos) (tVt K E (vAnd m n)) :=
  (pw_and ha hb).imp fun σ H Q ⟨p, ρ, er, h⟩ => ⟨p, ρ, er, h.bind.mono fun v H1 ⟨x, p1, ρ1, g1, er1, r1, h1⟩ => by
    have r1 : v = x := r1
    subst r1
    cases v with
    | true => exact ⟨p1, ρ1, er1, h1⟩
    | false => exact yes_tail ⟨p1, ρ1, er1, h1⟩⟩
theorem vw_or {a b : Expr} {rest : List Expr} {m n : Mv Bool} {pos : Pos} (ha : PT X a (tVt K E m)) (hb : PW X (.BoolOp .Or (b :: rest) pos) (tVt K E n)) : PW X (.BoolOp .Or (a :: b :: rest) pos) (tVt K E (vOr m n)) :=
  (pw_or ha hb).imp fun σ H Q ⟨p, ρ, er, h⟩ => ⟨p, ρ, er, h.bind.mono fun v H1 ⟨x, p1, ρ1, g1, er1, r1, h1⟩ => by
    have r1 : v = x := r1
    subst r1
    cases v with
    | false => exact ⟨p1, ρ1, er1, h1⟩
    | true => exact yes_tail ⟨p1, ρ1, er1, h1⟩⟩
theorem v_ifE {c a b : Expr} {m : Mv Bool} {ma mb : Mv Tv} {pos : Pos} (hc : PT X c (tVt K E m)) (ha : PE X a (tV K E ma)) (hb : PE X b (tV K E mb)) : PE X (.IfExp c a b pos) (tV K E (vIf m ma mb)) := (pe_ifExp hc ha hb).imp fun _ _ _ h => if_tail h
theorem v_and {a b : Expr} {rest : List Expr} {m n : Mv Tv} {pos : Pos} (ha : PE X a (tV K E m)) (hb : PE X (.BoolOp .And (b :: rest) pos) (tV K E n)) : PE X (.BoolOp .And (a :: b :: rest) pos) (tV K E (vAndV m n)) :=
  (pe_and ha hb).imp fun σ H Q ⟨p, ρ, er, h⟩ => ⟨p, ρ, er, h.bind.mono fun v H1 ⟨x, p1, ρ1, g1, er1, r1, h1⟩ => by
    cases x with
    | bl c =>
      refine ⟨c, rep_bl.mp r1, ?_⟩
      cases c with
      | true => exact ⟨p1, ρ1, er1, h1⟩
      | false => exact h1.pure er1 (rep_bl.mpr rfl)
    | _ => obtain ⟨_, z, _⟩ := h1; exact z.elim⟩
theorem v_one {op : BoolOp} {a : Expr} {m : Mv Tv} {pos : Pos} (ha : PE X a (tV K E m)) : PE X (.BoolOp op [a] pos) (tV K E m) := pe_one ha
theorem v_not {a : Expr} {m : Mv Tv} {pos : Pos} (ha : PE X a (tV K E m)) : PE X (.UnaryOp .Not a pos) (tV K E (vNotV m)) :=
  (pe_not ha).imp fun σ H Q ⟨p, ρ, er, h⟩ => ⟨p, ρ, er, h.bind.mono fun v H1 ⟨x, p1, ρ1, g1, er1, r1, h1⟩ => by
    cases x with
    | bl c => exact ⟨c, rep_bl.mp r1, h1.pure er1 (rep_bl.mpr rfl)⟩
    | _ => obtain ⟨_, z, _⟩ := h1; exact z.elim⟩
theorem va_nil : PA X [] (tVa K E []) := pa_nil.imp fun σ H Q ⟨p, ρ, er, h⟩ => h.pure er RepL.nil rfl
theorem va_cons {e : Expr} {es : List Expr} {m : Mv Tv} {ms : List (Mv Tv)} (ha : PE X e (tV K E m)) (hr : PA X es (tVa K E ms)) (hs : starEach (e :: es) X.env = (false, eval e X.env) :: starEach es X.env) : PA X (e :: es) (tVa K E (m :: ms)) :=
  (pa_cons ha hr hs).imp fun σ H Q ⟨p, ρ, er, h⟩ => ⟨p, ρ, er, h.bind.mono fun v H1 ⟨x, p1, ρ1, g1, er1, r1, h1⟩ => ⟨p1, ρ1, er1, h1.bind.mono fun vs H2 ⟨xs, p2, ρ2, g2, er2, r2, h2⟩ hl => h2.pure er2 (.cons (r1.up g2.same) r2) (by rw [List.length_cons, List.length_cons, hl])⟩⟩
theorem tVs.toA {ms : List (Mv Tv)} {σ : St} {H : Hp} {Q : List V -> Hp -> Prop} (h : tVs K E (vArgs ms) σ H Q) : tVa K E ms σ H Q := let ⟨p, ρ, er, h⟩ := h; ⟨p, ρ, er, h.mono fun _ _ q _ => q⟩
theorem PA.toS {es : List Expr} {ms : List (Mv Tv)} (h : PA X es (tVa K E ms)) : PA X es (tVs K E (vArgs ms)) := h.imp fun _ _ _ q => tVs.toA q
theorem le_line {n : Nat} (h : n <= 1000) : n <= sizeLine := Nat.le_of_lt (small1000 h)
theorem v_tup {es : List Expr} {ms : List (Mv Tv)} {k : Nat} {pos : Pos} (h : PA X es (tVa K E ms)) (hz : ms.length <= 1000 := by decide) : PE X (.Tuple es k pos) (tV K E (vTup ms)) :=
  (pe_tup h).imp fun σ H Q ⟨p, ρ, er, h⟩ => ⟨p, ρ, er, h.bind.mono fun vs H1 ⟨xs, p1, ρ1, g1, er1, r1, P, a, b, _⟩ hl => by
    refine ⟨by rw [hl]; exact le_line hz, fun q hq => ?_⟩
    obtain ⟨e2, s2⟩ := er1.alloc hq (.tup vs)
    refine b _ ρ1 a _ _ _ (grow0 s2) e2 (rep_tup.mpr ⟨q, vs, rfl, SqN.of ?_, ?_⟩)
    · rw [pset_at]; exact upd_same
    · rw [pset_at]; exact r1.up s2⟩
theorem v_lst {es : List Expr} {ms : List (Mv Tv)} {pos : Pos} (h : PA X es (tVa K E ms)) (hz : ms.length <= 1000 := by decide) : PE X (.List es pos) (tV K E (vLst ms)) :=
  (pe_lst h).imp fun σ H Q ⟨p, ρ, er, h⟩ => ⟨p, ρ, er, h.bind.mono fun vs H1 ⟨xs, p1, ρ1, g1, er1, r1, P, a, b, _⟩ hl => by
    refine ⟨by rw [hl]; exact le_line hz, fun q hq => ?_⟩
    obtain ⟨e2, s2⟩ := er1.alloc hq (.lst vs)
    refine b _ ρ1 a _ _ _ (grow0 s2) e2 (rep_lst.mpr ⟨q, vs, rfl, ?_, ?_⟩)
    · rw [pset_at]; exact upd_same
    · rw [pset_at]; exact r1.up s2⟩
theorem fn_tail {W : List Tv -> (Tv -> Prop) -> Prop} {ms : List (Mv Tv)} : ∀ σ H Q, tV K E (vFn W ms) σ H Q -> tCB (rVs K W) (tVs K E (vArgs ms)) σ H Q := fun σ H Q ⟨p, ρ, er, h⟩ =>
  ⟨p, ρ, er, h.bind.mono fun vs H1 ⟨xs, p1, ρ1, g1, er1, r1, h1⟩ => let ⟨P, a, b⟩ := tail_W er1 h1; ⟨p1, xs, P, er1.uni, r1, a, b⟩⟩
theorem v_fnB {W : List Tv -> (Tv -> Prop) -> Prop} {x : Str} {id : String} {e : Expr} {es : List Expr} {ms : List (Mv Tv)} {p pos : Pos} (hc : CallR X (.builtin id) (rVs K W)) (hg : Gl X x) (hm : X.mg x = none) (hv : bootBuiltins x = some (.builtin id)) (ha : PA X (e :: es) (tVa K E ms)) (hn : x ≠ "__name__" := by decide) (hdb : (x == ("__debug__" : Str)) = false := by decide)
    (he : starEach (e :: es) X.env = (false, eval e X.env) :: starEach es X.env := by rfl) (hpl : (backTo pos (starEach es X.env)).any (·.1) = false := by rfl) : PE X (.Call (.Name x p) (e :: es) [] pos) (tV K E (vFn W ms)) := (pe_callB hc hg hm hv ha.toS hn hdb he hpl).imp fn_tail
theorem v_fnT {W : List Tv -> (Tv -> Prop) -> Prop} {x : Str} {T : String} {e : Expr} {es : List Expr} {ms : List (Mv Tv)} {p pos : Pos} (hc : CallR X (.type T) (rVs K W)) (hg : Gl X x) (hm : X.mg x = none) (hv : bootBuiltins x = some (.type T)) (ha : PA X (e :: es) (tVa K E ms)) (hn : x ≠ "__name__" := by decide) (hdb : (x == ("__debug__" : Str)) = false := by decide)
    (he : starEach (e :: es) X.env = (false, eval e X.env) :: starEach es X.env := by rfl) (hpl : (backTo pos (starEach es X.env)).any (·.1) = false := by rfl) : PE X (.Call (.Name x p) (e :: es) [] pos) (tV K E (vFn W ms)) := (pe_callTy hc hg hm hv ha.toS hn hdb he hpl).imp fn_tail
def spV (K : PySem.W.Frag) (C : Ct) : Sp := fun vs H Q E => ∃ p ts P, Uni H p /\ (∀ j, 2 <= j -> p j = noH) /\ RepL K (p 0) ts vs /\ C ts P /\
  (∀ r, P (.ok r) -> ∀ v p' H', Grow p p' -> Uni H' p' -> (∀ j, 3 <= j -> p' j = noH) -> SlotR K (p' 0) (p' 2) (some v) r -> Q v H') /\
  (∀ c, P (.er c) -> ∀ p' H', Grow p p' -> Uni H' p' -> (∀ j, 2 <= j -> p' j = noH) -> E (.ref c) none H')
theorem three_ge {A B C : Hp} : ∀ j, 3 <= j -> three A B C j = noH := fun j h => by
  match j, h with
  | _ + 3, _ => rfl
theorem three_ge2 {A B : Hp} : ∀ j, 2 <= j -> three A B noH j = noH := fun j h => by
  match j, h with
  | 2, _ => rfl
  | _ + 3, _ => rfl
theorem Uni.one {H : Hp} {p : Pts} (u : Uni H p) (h3 : ∀ j, 3 <= j -> p j = noH) : Uni H (L2.mv p 2) /\ Grow p (L2.mv p 2) /\ ∀ j, 2 <= j -> L2.mv p 2 j = noH :=
  ⟨u.mv (by decide), mv_grow 0, fun j hj => by
    by_cases e : j = 2
    · rw [e, mv_at]
    · rw [mv_ne (by omega) e]; exact h3 j (by omega)⟩
theorem SlotR.toall {p : Pts} {v : V} {r : Sl} {H : Hp} (u : Uni H p) (h : SlotR K (p 0) (p 2) (some v) r) (hr : r ≠ .un) : Rep K (mv p 2 0) r.frz v := by
  have g := (mv_grow (p := p) 0).same
  cases r with
  | un => exact absurd rfl hr
  | va t =>
    obtain ⟨_, w, e, q⟩ := h
    cases e
    exact q.up g
  | ow D l =>
    obtain ⟨xs, e, b, q⟩ := h
    cases e
    have hD : p 2 D = some (.lst xs) := by rw [b]; exact oneH_at
    refine rep_lst.mpr ⟨D, xs, rfl, ?_, q.up g⟩
    rw [mv_zero (by decide)]
    unfold uniH
    rw [u.other hD (by decide)]
    exact hD
  | od D d =>
    obtain ⟨xs, e, b, q⟩ := h
    cases e
    have hD : p 2 D = some (.dK xs) := by rw [b]; exact oneH_at
    refine (q.up g).dic ?_
    rw [mv_zero (by decide)]
    unfold uniH
    rw [u.other hD (by decide)]
    exact hD
theorem v_call {C : Ct} {CX : CXT} {k : Nat} {f : Addr} {fd : FuncData} {ps : List Str} {x : Str} {p pos : Pos} {e : Expr} {es : List Expr} {ms : List (Mv Tv)} (hK : X.K = K) (F : FnOk X.prog X.w X.K X.mg X.base CX k f fd ps (spV K C)) (hr : Room k X.A) (hg : Gl X x) (hm : X.mg x = some (.ref f)) (hk : PySem.W.keepIn X.K (.ref f) = true) (hb : Binds X.K fd ps []) (hx : PassesS CX X E)
    (ha : PA X (e :: es) (tVa K E ms)) (hdb : (x == ("__debug__" : Str)) = false := by decide) (he : starEach (e :: es) X.env = (false, eval e X.env) :: starEach es X.env := by rfl) (hpl : (backTo pos (starEach es X.env)).any (·.1) = false := by rfl) :
    PE X (.Call (.Name x p) (e :: es) [] pos) (tV K E (vCall C ms)) :=
  (pe_callS F hr hg hm hk hb .nil hx ha.toS hdb he hpl).imp fun σ H Q ⟨p, ρ, er, h⟩ => ⟨p, ρ, er, h.bind.mono fun vs H1 ⟨xs, p1, ρ1, g1, er1, r1, P, a, b, c⟩ => by
    rw [List.append_nil]
    refine ⟨three (p1 0) (restH p1 H1) noH, xs, _, er1.uni.two, three_ge2, r1, a, fun r q v p' H' g u h3 s => ?_, fun c0 q p' H' g u h2 => ?_⟩
    · have hr : r ≠ .un := fun z => by subst z; exact q
      have q : P (.ok r.frz) ρ1 := by
        cases r with
        | un => exact q.elim
        | va t => exact q
        | ow D l => exact q
        | od D d => exact q
      obtain ⟨u2, g2, h2⟩ := u.one h3
      obtain ⟨u3, s3⟩ := er1.uni.back u2 ((g2.fr.trans g.fr : mv p' 2 1 = restH p1 H1))
      have s4 : Same (p1 0) _ := g.same.trans (g2.same.trans s3)
      exact b r.frz ρ1 q v _ H' (grow0 s4) (er1.grow s4 u3) (by rw [pset_at]; exact (s.toall u hr).up s3)
    · obtain ⟨u3, s3⟩ := er1.uni.back u (g.fr : p' 1 = restH p1 H1)
      have s4 : Same (p1 0) _ := g.same.trans s3
      exact c c0 ρ1 q _ H' (grow0 s4) (er1.grow s4 u3)⟩
theorem passE0 {P : Program} {w : World} {X : Cx} : PassesS (CXF P w) X (fun _ => E0) := fun _ _ _ _ _ _ _ h => by
  obtain ⟨_, _, _, _, _, _, _, _, z⟩ := h
  exact z.elim
def JOk (K : PySem.W.Frag) (J : It) (p : Pts) (ts : List Tv) : Prop := ∀ p' H', Same (p 0) (p' 0) -> Uni H' p' ->
  (∀ (i : Nat) t, ts[i]? = some t -> J.go i H' /\ ∀ x H2, J.yld i H' x H2 -> ∃ G2, Same (p' 0) G2 /\ Uni H2 (pset p' 0 G2) /\ Rep K G2 t x) /\ J.stop ts.length H'
def iV (K : PySem.W.Frag) (E : St -> XK) (m : Mv (List Tv)) : TI := fun σ H R => ∃ p ρ, ER K p H σ ρ /\ ∃ P, m ρ P /\ (∀ ts ρ', P (.ok ts) ρ' -> ∀ J p' H', Grow p p' -> ER K p' H' σ ρ' -> JOk K J p' ts -> R J H') /\ (∀ c ρ', P (.er c) ρ' -> ∀ p' H', Grow p p' -> ER K p' H' σ ρ' -> E σ (.ref c) none H')
theorem uni0 {H : Hp} {p : Pts} (u : Uni H p) : Uni H (pset p 0 (p 0)) := by rw [pset_self]; exact u
theorem jok_list {a : Addr} {xs : List V} {p : Pts} {ts : List Tv} (s : SqL K (p 0) a xs) (r : RepL K (p 0) ts xs) : JOk K (Itl K a) p ts := fun p' H' e u => by
  have s' : SqL K H' a xs := (e.trans (u.sub 0)).seq s
  refine ⟨fun i t ht => ?_, ⟨xs, s', by rw [r.len]; exact Nat.le_refl _⟩⟩
  obtain ⟨v, hv, q⟩ := r.get ht
  refine ⟨⟨xs, v, s', hv⟩, fun x H2 ⟨y1, y2⟩ => ⟨p' 0, Same.refl _, by rw [y1]; exact uni0 u, ?_⟩⟩
  have := y2 xs s'
  rw [hv] at this
  cases this
  exact q.up e
theorem jok_tup {a : Addr} {xs : List V} {p : Pts} {ts : List Tv} (s : SqT K (p 0) a xs) (r : RepL K (p 0) ts xs) : JOk K (Itt K a) p ts := fun p' H' e u => by
  have s' : SqT K H' a xs := (e.trans (u.sub 0)).seqT s
  refine ⟨fun i t ht => ?_, ⟨xs, s', by rw [r.len]; exact Nat.le_refl _⟩⟩
  obtain ⟨v, hv, q⟩ := r.get ht
  refine ⟨⟨xs, v, s', hv⟩, fun x H2 ⟨y1, y2⟩ => ⟨p' 0, Same.refl _, by rw [y1]; exact uni0 u, ?_⟩⟩
  have := y2 xs s'
  rw [hv] at this
  cases this
  exact q.up e
def iSeq (K : PySem.W.Frag) (tl : TE) : TI := fun σ H R => tl σ H fun x H1 => ∃ a, x = .ref a /\ (((∃ xs, SqL K H1 a xs) /\ R (Itl K a) H1) ∨ ((∃ xs, SqT K H1 a xs) /\ R (Itt K a) H1))
theorem pi_seq {tg l : Expr} {tl : TE} (hl : PE X l tl) : PI X tg l (iSeq X.K tl) := by
  intro pins s σ H R I h
  refine thn (hl pins s σ H _ I h) fun v s1 ⟨x, H1, I1, r1, q1⟩ => ?_
  obtain ⟨a, e, q⟩ := q1
  subst e
  cases r1
  rcases q with ⟨⟨xs, hq⟩, q⟩ | ⟨⟨xs, hq⟩, q⟩
  · obtain ⟨its, rv, p, hz⟩ := I1.list hq
    refine wpAny_pyIter_list p.isList ?_
    refine ⟨s1.heap.objs.size, [s1.heap.objs.size], _, _, H1, rfl, I1.kept (t' := s1.toks) fun b o e => Heap.get?_push_of_some _ e, turn_list a _, ⟨_, Heap.get?_push_size _ rfl, rfl, rfl⟩, fun b hb => ?_, q⟩
    have e : b = s1.heap.objs.size := by simpa using hb
    subst e
    exact I1.fpOk (Nat.le_refl _) (I1.hok.fresh (Nat.le_refl _))
  · obtain ⟨its, rv, p, hz⟩ := I1.tuple hq
    refine wpAny_pyIter_tuple (show s1.heap.IsTuple a its.toArray from p) ?_
    refine ⟨s1.heap.objs.size, [s1.heap.objs.size], _, _, H1, rfl, I1.kept (t' := s1.toks) fun b o e => Heap.get?_push_of_some _ e, turn_tuple a _, ⟨_, Heap.get?_push_size _ rfl, rfl, rfl⟩, fun b hb => ?_, q⟩
    have e : b = s1.heap.objs.size := by simpa using hb
    subst e
    exact I1.fpOk (Nat.le_refl _) (I1.hok.fresh (Nat.le_refl _))
theorem tA.toI {α : Type} {R1 : Hp -> α -> V -> Prop} {m : Mv α} {k : α -> Mv (List Tv)} {p : Pts} {ρ : En} {σ : St} {H : Hp} {R : It -> Hp -> Prop} (h : ∃ P, vBind m k ρ P /\ (∀ ts ρ', P (.ok ts) ρ' -> ∀ J p' H', Grow p p' -> ER K p' H' σ ρ' -> JOk K J p' ts -> R J H') /\ (∀ c ρ', P (.er c) ρ' -> ∀ p' H', Grow p p' -> ER K p' H' σ ρ' -> E σ (.ref c) none H')) :
    tA K E R1 m p ρ σ (fun v H1 => ∃ x p1 ρ1, Grow p p1 /\ ER K p1 H1 σ ρ1 /\ R1 (p1 0) x v /\ ∃ P, k x ρ1 P /\ (∀ ts ρ', P (.ok ts) ρ' -> ∀ J p' H', Grow p1 p' -> ER K p' H' σ ρ' -> JOk K J p' ts -> R J H') /\ (∀ c ρ', P (.er c) ρ' -> ∀ p' H', Grow p1 p' -> ER K p' H' σ ρ' -> E σ (.ref c) none H')) := by
  obtain ⟨P, a, b, c⟩ := h
  refine ⟨_, a, fun x ρ' q v p' H' g e r => ⟨x, p', ρ', g, e, r, P, q, fun y ρ2 q2 J p2 H2 g2 => b y ρ2 q2 J p2 H2 (g.trans g2), fun y ρ2 q2 p2 H2 g2 => c y ρ2 q2 p2 H2 (g.trans g2)⟩, fun x ρ' q p' H' g e => c x ρ' q p' H' g e⟩
theorem tA.toIs {α : Type} {R1 : Hp -> α -> List V -> Prop} {m : Mv α} {k : α -> Mv (List Tv)} {p : Pts} {ρ : En} {σ : St} {H : Hp} {R : It -> Hp -> Prop} (h : ∃ P, vBind m k ρ P /\ (∀ ts ρ', P (.ok ts) ρ' -> ∀ J p' H', Grow p p' -> ER K p' H' σ ρ' -> JOk K J p' ts -> R J H') /\ (∀ c ρ', P (.er c) ρ' -> ∀ p' H', Grow p p' -> ER K p' H' σ ρ' -> E σ (.ref c) none H')) :
    tA K E R1 m p ρ σ (fun v H1 => ∃ x p1 ρ1, Grow p p1 /\ ER K p1 H1 σ ρ1 /\ R1 (p1 0) x v /\ ∃ P, k x ρ1 P /\ (∀ ts ρ', P (.ok ts) ρ' -> ∀ J p' H', Grow p1 p' -> ER K p' H' σ ρ' -> JOk K J p' ts -> R J H') /\ (∀ c ρ', P (.er c) ρ' -> ∀ p' H', Grow p1 p' -> ER K p' H' σ ρ' -> E σ (.ref c) none H')) := by
  obtain ⟨P, a, b, c⟩ := h
  refine ⟨_, a, fun x ρ' q v p' H' g e r => ⟨x, p', ρ', g, e, r, P, q, fun y ρ2 q2 J p2 H2 g2 => b y ρ2 q2 J p2 H2 (g.trans g2), fun y ρ2 q2 p2 H2 g2 => c y ρ2 q2 p2 H2 (g.trans g2)⟩, fun x ρ' q p' H' g e => c x ρ' q p' H' g e⟩
theorem vi_seq {tg l : Expr} {m : Mv Tv} (hK : X.K = K) (hl : PE X l (tV K E m)) : PI X tg l (iV K E (vSeqI m)) := by
  subst hK
  refine (pi_seq hl).imp fun σ H R ⟨p, ρ, er, h⟩ => ⟨p, ρ, er, (tA.toI (H := H) h).mono fun v H1 ⟨x, p1, ρ1, g1, er1, r1, P, a, b, _⟩ => ?_⟩
  cases x with
  | tup l =>
    obtain ⟨q, xs, rfl, s, r⟩ := rep_tupS r1
    exact ⟨q, rfl, .inr ⟨⟨xs, (er1.uni.sub 0).seqT s⟩, b l ρ1 a _ p1 H1 .refl er1 (jok_tup s r)⟩⟩
  | lst l =>
    obtain ⟨q, xs, rfl, s, r⟩ := rep_lst.mp r1
    exact ⟨q, rfl, .inl ⟨⟨xs, SqL.of (er1.uni.sub 0 _ _ s)⟩, b l ρ1 a _ p1 H1 .refl er1 (jok_list (SqL.of s) r)⟩⟩
  | scr l =>
    obtain ⟨q, xs, rfl, s, r⟩ := rep_scr.mp r1
    exact ⟨q, rfl, .inl ⟨⟨xs, (er1.uni.sub 0).seq s⟩, b l ρ1 a _ p1 H1 .refl er1 (jok_list s r)⟩⟩
  | _ => exact a.elim
theorem jok_rng {lo : Int} {n : Nat} {p : Pts} : JOk K (Itr lo n) p (rngL lo n) := fun p' H' e u => by
  refine ⟨fun i t ht => ?_, by show n <= (rngL lo n).length; unfold rngL; simp⟩
  unfold rngL at ht
  rw [List.getElem?_map] at ht
  obtain ⟨k, hk, rfl⟩ := Option.map_eq_some_iff.mp ht
  obtain ⟨hi, rfl⟩ := List.getElem?_eq_some_iff.mp hk
  rw [List.length_range] at hi
  refine ⟨hi, fun x H2 ⟨y1, y2⟩ => ⟨p' 0, Same.refl _, by rw [y1]; exact uni0 u, ?_⟩⟩
  rw [y2, List.getElem_range]
  exact rep_int.mpr rfl
theorem vi_rng {tg a : Expr} {m : Mv Tv} {p pos : Pos} (hg : Gl X "range") (hm : X.mg "range" = none) (ha : PA X [a] (tVa K E [m])) (hs : starEach [a] X.env = [(false, eval a X.env)] := by rfl) : PI X tg (.Call (.Name "range" p) [a] [] pos) (iV K E (vRng m)) := by
  refine (pi_range1 hg hm ha.toS hs).imp fun σ H R ⟨p, ρ, er, h⟩ => ⟨p, ρ, er, (tA.toIs (H := H) h).mono fun vs H1 ⟨xs, p1, ρ1, g1, er1, r1, P, a, b, _⟩ => ?_⟩
  match xs, a with
  | [.int j], a =>
    obtain ⟨⟨h1, h2⟩, q⟩ := a
    obtain ⟨v, r, rfl, a1, a2⟩ := repL_cons.mp r1
    rw [rep_int.mp a1, repL_nil.mp a2]
    exact ⟨j, rfl, h1, h2, b _ ρ1 q _ p1 H1 .refl er1 jok_rng⟩
theorem pair_laid {H : Hp} {p : Pts} {a : Addr} {x y : V} {s t : Tv} (u : Uni H p) (n : H a = none) (r1 : Rep K (p 0) s x) (r2 : Rep K (p 0) t y) : ∃ G2, Same (p 0) G2 /\ Uni (upd H a (.tup [x, y])) (pset p 0 G2) /\ Rep K G2 (.tup [s, t]) (.ref a) := by
  have s0 : Same (p 0) (upd (p 0) a (.tup [x, y])) := fun b o' e => by rw [upd_ne (ne_of_none e (u.fresh n 0))]; exact e
  exact ⟨_, s0, u.alloc n 0 _, rep_tup.mpr ⟨a, _, rfl, SqN.of upd_same, .cons (r1.up s0) (.cons (r2.up s0) .nil)⟩⟩
theorem enum_get {l : List Tv} {i : Nat} {t : Tv} (h : (enumL l)[i]? = some t) : ∃ s, l[i]? = some s /\ t = .tup [.int i, s] := by
  unfold enumL at h
  rw [List.getElem?_mapIdx] at h
  obtain ⟨s, hs, rfl⟩ := Option.map_eq_some_iff.mp h
  exact ⟨s, hs, rfl⟩
theorem enum_len {l : List Tv} : (enumL l).length = l.length := by unfold enumL; simp
theorem jok_enumL {a : Addr} {xs : List V} {p : Pts} {l : List Tv} (s : SqL K (p 0) a xs) (r : RepL K (p 0) l xs) : JOk K (Ite K a) p (enumL l) := fun p' H' e u => by
  have s' : SqL K H' a xs := (e.trans (u.sub 0)).seq s
  refine ⟨fun i t ht => ?_, ⟨xs, s', by rw [r.len, enum_len]; exact Nat.le_refl _⟩⟩
  obtain ⟨t', ht', rfl⟩ := enum_get ht
  obtain ⟨v, hv, q⟩ := r.get ht'
  refine ⟨⟨xs, v, s', hv⟩, fun x H2 ⟨b, y, n, y1, y2, y3⟩ => ?_⟩
  have := y3 xs s'
  rw [hv] at this
  cases this
  rw [y1, y2]
  exact pair_laid u n (rep_int.mpr rfl) (q.up e)
theorem vi_enumL {elts : List Expr} {x1 : Nat} {tpos : Pos} {a : Expr} {m : Mv Tv} {p pos : Pos} (hK : X.K = K) (hg : Gl X "enumerate") (hm : X.mg "enumerate" = none) (ha : PA X [a] (tVa K E [m])) (hs : starEach [a] X.env = [(false, eval a X.env)] := by rfl) :
    PI X (.Tuple elts x1 tpos) (.Call (.Name "enumerate" p) [a] [] pos) (iV K E (vEnumL m)) := by
  subst hK
  refine (pi_enum hg hm ha.toS hs).imp fun σ H R ⟨p, ρ, er, h⟩ => ⟨p, ρ, er, (tA.toIs (H := H) h).mono fun vs H1 ⟨xs, p1, ρ1, g1, er1, r1, P, a, b, _⟩ => ?_⟩
  match xs, a with
  | [.lst l], a =>
    obtain ⟨v, r, rfl, a1, a2⟩ := repL_cons.mp r1
    obtain ⟨q, ys, rfl, s, r⟩ := rep_lst.mp a1
    rw [repL_nil.mp a2]
    exact ⟨q, rfl, ⟨ys, SqL.of (er1.uni.sub 0 _ _ s)⟩, b _ ρ1 a _ p1 H1 .refl er1 (jok_enumL (SqL.of s) r)⟩
theorem sqK_of {k : Bool} {t : Tv} {l : List Tv} {v : V} {G : Hp} (h : ofK k t = some l) (r : Rep K G t v) : ∃ a xs, v = .ref a /\ SqK k K G a xs /\ RepL K G l xs := by
  cases t with
  | tup m =>
    obtain ⟨a, xs, rfl, s, r⟩ := rep_tupS r
    cases k with
    | true => cases h; exact ⟨a, xs, rfl, s, r⟩
    | false => cases h
  | lst m =>
    obtain ⟨a, xs, rfl, s, r⟩ := rep_lst.mp r
    cases k with
    | true => cases h
    | false => cases h; exact ⟨a, xs, rfl, SqL.of s, r⟩
  | scr m =>
    obtain ⟨a, xs, rfl, s, r⟩ := rep_scr.mp r
    cases k with
    | true => cases h
    | false => cases h; exact ⟨a, xs, rfl, s, r⟩
  | _ => cases h
theorem zip_get {a b : List Tv} {i : Nat} {t : Tv} (h : (zipL a b)[i]? = some t) : ∃ x y, a[i]? = some x /\ b[i]? = some y /\ t = .tup [x, y] := by
  unfold zipL at h
  rw [List.getElem?_zipWith] at h
  cases e1 : a[i]? with
  | none => rw [e1] at h; cases h
  | some x =>
    cases e2 : b[i]? with
    | none => rw [e1, e2] at h; cases h
    | some y => rw [e1, e2] at h; exact ⟨x, y, rfl, rfl, (Option.some.inj h).symm⟩
theorem zip_len {a b : List Tv} : (zipL a b).length = min a.length b.length := by unfold zipL; simp
theorem jok_zip {k1 k2 : Bool} {a b : Addr} {xs ys : List V} {p : Pts} {l m : List Tv} (s1 : SqK k1 K (p 0) a xs) (s2 : SqK k2 K (p 0) b ys) (r1 : RepL K (p 0) l xs) (r2 : RepL K (p 0) m ys) : JOk K (Itz K k1 k2 a b) p (zipL l m) := fun p' H' e u => by
  have t1 : SqK k1 K H' a xs := (e.trans (u.sub 0)).sqK s1
  have t2 : SqK k2 K H' b ys := (e.trans (u.sub 0)).sqK s2
  refine ⟨fun i t ht => ?_, ⟨xs, ys, t1, t2, by rw [r1.len, r2.len, zip_len]; omega⟩⟩
  obtain ⟨x, y, hx, hy, rfl⟩ := zip_get ht
  obtain ⟨v, hv, q⟩ := r1.get hx
  obtain ⟨v', hv', q'⟩ := r2.get hy
  refine ⟨⟨xs, ys, v, v', t1, t2, hv, hv'⟩, fun z H2 ⟨c, u1, u2, n, y1, y2, y3, y4⟩ => ?_⟩
  have z1 := y3 xs t1
  have z2 := y4 ys t2
  rw [hv] at z1
  rw [hv'] at z2
  cases z1
  cases z2
  rw [y1, y2]
  exact pair_laid u n (q.up e) (q'.up e)
theorem vi_zip (k1 k2 : Bool) {elts : List Expr} {x1 : Nat} {tpos : Pos} {a b : Expr} {m n : Mv Tv} {p pos : Pos} (hK : X.K = K) (hg : Gl X "zip") (hm : X.mg "zip" = none) (ha : PA X [a, b] (tVa K E [m, n])) (hs : starEach [a, b] X.env = (false, eval a X.env) :: starEach [b] X.env := by rfl) (hp : (backTo pos (starEach [b] X.env)).any (·.1) = false := by rfl) :
    PI X (.Tuple elts x1 tpos) (.Call (.Name "zip" p) [a, b] [] pos) (iV K E (vZip k1 k2 m n)) := by
  subst hK
  refine (pi_zip k1 k2 hg hm ha.toS hs hp).imp fun σ H R ⟨p, ρ, er, h⟩ => ⟨p, ρ, er, (tA.toIs (H := H) h).mono fun vs H1 ⟨xs, p1, ρ1, g1, er1, r1, P, a, b, _⟩ => ?_⟩
  match xs, a with
  | [x, y], a =>
    obtain ⟨v, r, rfl, a1, a2⟩ := repL_cons.mp r1
    obtain ⟨v', r', rfl, a3, a4⟩ := repL_cons.mp a2
    rw [repL_nil.mp a4]
    dsimp only at a
    cases e1 : ofK k1 x with
    | none => rw [e1] at a; exact a.elim
    | some l =>
      cases e2 : ofK k2 y with
      | none => rw [e1, e2] at a; exact a.elim
      | some l' =>
        rw [e1, e2] at a
        obtain ⟨c, us, rfl, s1, q1⟩ := sqK_of e1 a1
        obtain ⟨d, ws, rfl, s2, q2⟩ := sqK_of e2 a3
        exact ⟨c, d, rfl, ⟨us, (er1.uni.sub 0).sqK s1⟩, ⟨ws, (er1.uni.sub 0).sqK s2⟩, b _ ρ1 a _ p1 H1 .refl er1 (jok_zip s1 s2 q1 q2)⟩
end
end L2
set_option Elab.async false
set_option linter.all false
set_option maxRecDepth 100000
set_option maxHeartbeats 4000000
namespace L2
open PySem PySem.Spec PyProof.Rows
section
variable {X : Cx} {K : PySem.W.Frag} {E : St -> XK}
def TgOk (K : PySem.W.Frag) (g : TG) (f : Gv) : Prop := ∀ p H σ ρ t v ρ' Q, ER K p H σ ρ -> Rep K (p 0) t v -> f t ρ = some ρ' -> (∀ σ' p', Grow p p' -> ER K p' H σ' ρ' -> Q σ' H) -> g v σ H Q
theorem tg_name (i : Nat) : TgOk K (gName i) (gV i) := fun p H σ ρ t v ρ' Q er r e k => by
  cases e
  exact k _ _ (mv_grow i) (er.set i r)
def gNames : List Nat -> TGs
  | [] => gNil
  | i :: is => gCons (gName i) (gNames is)
theorem tg_names : ∀ (is : List Nat) {p : Pts} {H : Hp} {σ : St} {ρ : En} {ts : List Tv} {vs : List V} {Q : St -> Hp -> Prop}, ER K p H σ ρ -> RepL K (p 0) ts vs -> ts.length = is.length -> (∀ σ' p', Grow p p' -> ER K p' H σ' (setAll is ts ρ) -> Q σ' H) -> gNames is vs σ H Q
  | [], p, H, σ, ρ, ts, vs, Q, er, r, hl, k => by
    cases ts with
    | nil => exact ⟨repL_nil.mp r, k σ p .refl er⟩
    | cons _ _ => cases hl
  | i :: is, p, H, σ, ρ, ts, vs, Q, er, r, hl, k => by
    cases ts with
    | nil => cases hl
    | cons t ts =>
      obtain ⟨v, rest, rfl, a, b⟩ := repL_cons.mp r
      refine ⟨v, rest, rfl, tg_names is (er.set i a) (b.up (mv_grow i).same) (by simpa using hl) fun σ' p' g e => k σ' p' ((mv_grow i).trans g) e⟩
theorem tg_tup {is : List Nat} {n : Nat} (hn : n = is.length) : TgOk K (gTup K n (gNames is)) (gT is) := fun p H σ ρ t v ρ' Q er r e k => by
  unfold gT at e
  cases t with
  | tup l =>
    dsimp only at e
    split at e
    · rename_i hl
      cases e
      obtain ⟨a, xs, rfl, s, q⟩ := rep_tupS r
      exact ⟨a, xs, rfl, (er.uni.sub 0).seqT s, by rw [q.len, hl, hn], tg_names is er q hl k⟩
    · cases e
  | _ => cases e
theorem vgs_nil : PGs X [] (gNames []) := pgs_nil
theorem vgs_cons {i : Nat} {is : List Nat} {x : Str} {pos : Pos} {es : List Expr} (hN : X.N.Nodup) (hi : X.N[i]? = some x) (hx : Loc X.env.scope x) (hf : X.fn x = true ∨ X.env.scope.names.lookup x = some .local) (h2 : PGs X es (gNames is))
    (hs : (assignEach (.Name x pos :: es) X.env).map (·.2) = assign (.Name x pos) X.env :: (assignEach es X.env).map (·.2) := by rfl) : PGs X (.Name x pos :: es) (gNames (i :: is)) := pgs_cons (pg_name hN hi hx hf) h2 hs
theorem capt_len {nt : Nat} {js : List Nat} {ρ : En} : (capt nt js ρ).length = nt + js.length := by unfold capt; simp
theorem capt_no {nt : Nat} {js : List Nat} {ρ : En} {i : Nat} {s : Sl} (h : (capt nt js ρ)[i]? = some s) : s.mine = false := by
  unfold capt at h
  by_cases hi : i < nt
  · rw [List.getElem?_append_left (by simpa using hi), List.getElem?_replicate, if_pos hi] at h
    cases h; rfl
  · rw [List.getElem?_append_right (by simpa using hi), List.getElem?_map] at h
    obtain ⟨j, _, h⟩ := Option.map_eq_some_iff.mp h
    split at h <;> (cases h; rfl)
theorem ER.captd {p : Pts} {H : Hp} {σ : St} {ρ : En} {F : Hp} (h : ER K p H σ ρ) {q : Pts} {H' : Hp} (u : Uni H' q) (h2 : ∀ j, 2 <= j -> q j = noH) (s : Same (p 0) (q 0)) (ts : List Str) (fs : List (Str × Nat)) :
    ER K q H' (ts.map (fun _ => (none : Option V)) ++ fs.map fun f => (σ[f.2]?).join) (capt ts.length (fs.map (·.2)) ρ) := by
  refine ⟨u, by rw [capt_len]; simp, fun i s' e => ?_, fun i _ => h2 _ (by omega)⟩
  rw [h2 (i + 2) (by omega)]
  unfold capt at e
  by_cases hi : i < ts.length
  · rw [List.getElem?_append_left (by simpa using hi), List.getElem?_replicate, if_pos hi] at e
    cases e
    rfl
  · rw [List.getElem?_append_right (by simpa using hi), List.getElem?_map, List.length_replicate, List.getElem?_map, Option.map_map] at e
    obtain ⟨f, hf, e⟩ := Option.map_eq_some_iff.mp e
    rw [List.getElem?_append_right (by simpa using hi), List.getElem?_map, List.length_map, hf]
    have e : (match ρ[f.2]? with | some (.va t) => Sl.va t | _ => .un) = s' := e
    split at e
    · rename_i t q'
      subst e
      obtain ⟨v, hv, r⟩ := h.get q'
      exact ⟨rfl, v, by show (σ[f.2]?).join = some v; rw [hv]; rfl, r.up s⟩
    · subst e; rfl
def keepsV (g : Gv) (nt : Nat) : Prop := ∀ t ρ ρ', g t ρ = some ρ' -> ρ'.length = ρ.length /\ ∀ j s, nt <= j -> ρ[j]? = some s -> ρ'[j]? = some s
theorem keeps_name {i nt : Nat} (h : i < nt) : keepsV (gV i) nt := fun t ρ ρ' e => by
  cases e
  exact ⟨List.length_set .., fun j s hj q => by rw [List.getElem?_set_ne (by omega)]; exact q⟩
theorem setAll_keeps {nt : Nat} : ∀ (is : List Nat) (ts : List Tv) (ρ : En), (∀ i ∈ is, i < nt) -> (setAll is ts ρ).length = ρ.length /\ ∀ j s, nt <= j -> ρ[j]? = some s -> (setAll is ts ρ)[j]? = some s
  | [], ts, ρ, _ => by cases ts <;> exact ⟨rfl, fun _ _ _ q => q⟩
  | i :: is, [], ρ, _ => ⟨rfl, fun _ _ _ q => q⟩
  | i :: is, t :: ts, ρ, h => by
    obtain ⟨a, b⟩ := setAll_keeps is ts (ρ.set i (.va t)) fun k hk => h k (List.mem_cons_of_mem _ hk)
    have hi := h i (List.mem_cons_self ..)
    exact ⟨a.trans (List.length_set ..), fun j s hj q => b j s hj (by rw [List.getElem?_set_ne (by omega)]; exact q)⟩
theorem keeps_tup {is : List Nat} {nt : Nat} (h : ∀ i ∈ is, i < nt) : keepsV (gT is) nt := fun t ρ ρ' e => by
  unfold gT at e
  cases t with
  | tup l =>
    dsimp only at e
    split at e
    · cases e; exact setAll_keeps is l ρ h
    · cases e
  | _ => cases e
theorem ow_set {ρ : En} {i : Nat} {t : Tv} (h : ∀ (j : Nat) (s : Sl), ρ[j]? = some s -> s.mine = false) : ∀ (j : Nat) (s : Sl), (ρ.set i (.va t))[j]? = some s -> s.mine = false := fun j s e => by
  by_cases q : j = i
  · subst q
    by_cases hj : j < ρ.length
    · rw [List.getElem?_set_self hj] at e; cases e; rfl
    · rw [List.getElem?_eq_none (by rw [List.length_set]; omega)] at e; cases e
  · rw [List.getElem?_set_ne (Ne.symm q)] at e; exact h j s e
theorem ow_all : ∀ (is : List Nat) (ts : List Tv) (ρ : En), (∀ (j : Nat) (s : Sl), ρ[j]? = some s -> s.mine = false) -> ∀ (j : Nat) (s : Sl), (setAll is ts ρ)[j]? = some s -> s.mine = false
  | [], ts, ρ, h => by cases ts <;> exact h
  | i :: is, [], ρ, h => h
  | i :: is, t :: ts, ρ, h => ow_all is ts _ (ow_set h)
def noOw (g : Gv) : Prop := ∀ t ρ ρ', g t ρ = some ρ' -> (∀ (j : Nat) (s : Sl), ρ[j]? = some s -> s.mine = false) -> ∀ (j : Nat) (s : Sl), ρ'[j]? = some s -> s.mine = false
theorem noOw_name {i : Nat} : noOw (gV i) := fun t ρ ρ' e h => by cases e; exact ow_set h
theorem noOw_tup {is : List Nat} : noOw (gT is) := fun t ρ ρ' e h => by
  unfold gT at e
  cases t with
  | tup l =>
    dsimp only at e
    split at e
    · cases e; exact ow_all is l ρ h
    · cases e
  | _ => cases e
theorem comp_core {ts : List Str} {fs : List (Str × Nat)} {g : TG} {f : Gv} {c : Mv Bool} {e : Mv Tv} {p1 : Pts} {H1 : Hp} {σ : St} {ρ1 : En} {J : It} {l : List Tv} {D : Addr} {Pc : List Tv -> Prop} {Fi : Hp -> Prop} (hg : TgOk K g f) (hk : keepsV f ts.length) (ho : noOw f)
    (er1 : ER K p1 H1 σ ρ1) (hj : JOk K J p1 l) (hD : H1 D = none) (hz : l.length < sizeLine) (hw : compW f c e (capt ts.length (fs.map (·.2)) ρ1) l [] Pc)
    (fin : ∀ acc ys G' H', Pc acc -> RepL K G' acc ys -> Same (p1 0) G' -> Uni (hid D H') (pset p1 0 G') -> H' = upd (hid D H') D (.lst ys) -> Fi H') :
    ∃ W : Nat -> Nat -> St -> Hp -> Prop, (∃ m, W 0 m (ts.map (fun _ => none) ++ fs.map fun p => (σ[p.2]?).join) (upd H1 D (.lst []))) /\ ∀ i m σ' H', W i m σ' H' ->
      (J.stop i H' /\ Fi H') ∨ (J.go i H' /\ ∀ x H2, J.yld i H' x H2 -> g x σ' H2 fun σ2 H3 => tVt K (fun _ => E0) c σ2 H3 fun b H4 => if b = true then tV K (fun _ => E0) e σ2 H4 fun y H5 => ∃ ys, H5 D = some (.lst ys) /\ ys.length < sizeLine /\ ∃ m', m' < m /\ W (i + 1) m' σ2 (upd H5 D (.lst (ys ++ [y])))
        else ∃ m', m' < m /\ W (i + 1) m' σ2 H4) := by
  have u1 := er1.uni
  have nR : restH p1 H1 D = none := by
    unfold restH
    cases q : p1 0 D with
    | none => exact hD
    | some _ => rfl
  have two : ∀ ys, Uni (upd H1 D (.lst ys)) (three (p1 0) (upd (restH p1 H1) D (.lst ys)) noH) := fun ys => by
    have := u1.two.put (i := 1) (a := D) (fun j _ => u1.two.fresh hD j) (.lst ys)
    have e : pset (three (p1 0) (restH p1 H1) noH) 1 (upd (three (p1 0) (restH p1 H1) noH 1) D (.lst ys)) = three (p1 0) (upd (restH p1 H1) D (.lst ys)) noH := by
      funext j
      match j with
      | 0 => rfl
      | 1 => rfl
      | 2 => rfl
      | _ + 3 => rfl
    rw [e] at this
    exact this
  refine ⟨fun i m σ' H' => m = l.length - i /\ i <= l.length /\ ∃ q ys acc, Same (p1 0) (q 0) /\ q 1 = upd (restH p1 H1) D (.lst ys) /\ ER K q H' σ' (capt ts.length (fs.map (·.2)) ρ1) /\ RepL K (q 0) acc ys /\ ys.length <= i /\ compW f c e (capt ts.length (fs.map (·.2)) ρ1) (l.drop i) acc Pc,
    ⟨l.length, by simp, Nat.zero_le _, three (p1 0) (upd (restH p1 H1) D (.lst [])) noH, [], [], Same.refl _, rfl, er1.captd (F := noH) (two []) three_ge2 (Same.refl _) ts fs, .nil, Nat.le_refl _, by simpa using hw⟩, ?_⟩
  rintro i m σ' H' ⟨rfl, hi, q, ys, acc, s0, q1, eq, ra, hl, w⟩
  obtain ⟨jg, js⟩ := hj q H' s0 eq.uni
  have hqD : q 1 D = some (.lst ys) := by rw [q1]; exact upd_same
  by_cases hlt : i < l.length
  · rw [List.drop_eq_getElem_cons hlt] at w
    obtain ⟨ρ2, eg, w⟩ := w
    obtain ⟨go, yl⟩ := jg i l[i] (List.getElem?_eq_getElem hlt)
    refine .inr ⟨go, fun x H2 y => ?_⟩
    obtain ⟨G2, s2, u2, r2⟩ := yl x H2 y
    have e2 := eq.grow s2 u2
    refine hg _ H2 σ' _ l[i] x ρ2 _ e2 (by rw [pset_at]; exact r2) eg fun σ2 q3 g3 e3 => ?_
    have g03 : Grow q q3 := (grow0 s2).trans g3
    have back : ∀ {q' : Pts} {H'' : Hp}, ER K q' H'' σ2 ρ2 -> ER K q' H'' σ2 (capt ts.length (fs.map (·.2)) ρ1) := fun {q' H''} h => by
      obtain ⟨k1, k2⟩ := hk _ _ _ eg
      refine h.less k1.symm fun j s e => ?_
      by_cases hj : j < ts.length
      · refine .inl ⟨?_, ho _ _ _ eg (fun j s => capt_no) j⟩
        unfold capt at e
        rw [List.getElem?_append_left (by simpa using hj), List.getElem?_replicate, if_pos hj] at e
        exact (Option.some.inj e).symm
      · exact .inr (k2 j s (by omega) e)
    refine ⟨q3, ρ2, e3, _, w, fun bv ρ4 qb v q4 H4 g4 e4 rv => ?_, fun _ _ qb _ _ _ _ => qb.2.elim⟩
    obtain ⟨rfl, qb⟩ := qb
    have rv : v = bv := rv
    subst rv
    have g04 := g03.trans g4
    cases v with
    | false => exact ⟨l.length - (i + 1), by omega, rfl, hlt, q4, ys, acc, s0.trans g04.same, by rw [g04.fr, q1], back e4, ra.up g04.same, by omega, qb⟩
    | true =>
      refine ⟨q4, _, e4, _, qb, fun yv ρ5 qe v q5 H5 g5 e5 r5 => ?_, fun _ _ qe _ _ _ _ => qe.2.elim⟩
      obtain ⟨rfl, qe⟩ := qe
      have g05 := g04.trans g5
      have f5 : q5 1 = upd (restH p1 H1) D (.lst ys) := by rw [g05.fr, q1]
      have h5D : q5 1 D = some (.lst ys) := by rw [f5]; exact upd_same
      have u5 := e5.uni.put (i := 1) (a := D) (fun j hj => e5.uni.other h5D hj) (.lst (ys ++ [v]))
      rw [f5, upd_upd] at u5
      refine ⟨ys, (e5.uni.mem _ _).mpr ⟨1, h5D⟩, by omega, l.length - (i + 1), by omega, rfl, hlt, pset q5 1 (upd (restH p1 H1) D (.lst (ys ++ [v]))), ys ++ [v], acc ++ [yv], by rw [pset_ne (by decide)]; exact s0.trans g05.same, pset_at, ?_, by rw [pset_ne (by decide)]; exact (ra.up g05.same).app (.cons r5 .nil), by rw [List.length_append, List.length_singleton]; omega, qe⟩
      have e6 := back e5
      exact ⟨u5, e6.len, fun j s e => by rw [pset_ne (by decide), pset_ne (by omega)]; exact e6.slot j s e, fun j hj => by rw [pset_ne (by omega)]; exact e6.out j hj⟩
  · have ei : i = l.length := by omega
    subst ei
    refine .inl ⟨js, ?_⟩
    rw [List.drop_length] at w
    have w : Pc acc := w
    have qn : ∀ j, 2 <= j -> q j = noH := fun j hj => by
      obtain ⟨k, rfl⟩ : ∃ k, j = k + 2 := ⟨j - 2, by omega⟩
      by_cases hk : k < (capt ts.length (fs.map (·.2)) ρ1).length
      · have := eq.slot k _ (List.getElem?_eq_getElem hk)
        cases z : (capt ts.length (fs.map (·.2)) ρ1)[k] with
        | un => rw [z] at this; exact this
        | va t => rw [z] at this; exact this.1
        | ow D l => cases capt_no (s := .ow D l) (by rw [← z]; exact List.getElem?_eq_getElem hk)
        | od D d => cases capt_no (s := .od D d) (by rw [← z]; exact List.getElem?_eq_getElem hk)
      · exact eq.out k (by omega)
    have n0D : q 0 D = none := eq.uni.other hqD (by decide)
    refine fin acc ys (q 0) H' w ra s0 ⟨fun b o => ?_, fun i j b n => ?_⟩ ?_
    · constructor
      · intro e
        have hb : b ≠ D := fun z => by rw [z, hid_at] at e; cases e
        rw [hid_ne hb] at e
        obtain ⟨k, e⟩ := (eq.uni.mem b o).mp e
        by_cases k0 : k = 0
        · subst k0; exact ⟨0, by rw [pset_at]; exact e⟩
        by_cases k1 : k = 1
        · subst k1
          rw [q1, upd_ne hb] at e
          obtain ⟨k, hk, e⟩ := (restH_some u1).mp e
          exact ⟨k, by rw [pset_ne hk]; exact e⟩
        · rw [qn k (by omega)] at e; cases e
      · rintro ⟨k, e⟩
        by_cases k0 : k = 0
        · subst k0
          rw [pset_at] at e
          rw [hid_ne (ne_of_none e n0D)]
          exact (eq.uni.mem b o).mpr ⟨0, e⟩
        · rw [pset_ne k0] at e
          have hb : b ≠ D := ne_of_none e (u1.fresh hD k)
          rw [hid_ne hb]
          refine (eq.uni.mem b o).mpr ⟨1, ?_⟩
          rw [q1, upd_ne hb]
          exact (restH_some u1).mpr ⟨k, k0, e⟩
    · have key : ∀ k, k ≠ 0 -> q 0 b = none ∨ p1 k b = none := fun k hk => by
        cases e : p1 k b with
        | none => exact .inr rfl
        | some o =>
          have hb : b ≠ D := ne_of_none e (u1.fresh hD k)
          have : q 1 b = some o := by rw [q1, upd_ne hb]; exact (restH_some u1).mpr ⟨k, hk, e⟩
          exact .inl (eq.uni.other this (by decide))
      by_cases hi0 : i = 0
      · subst hi0
        have hj0 : j ≠ 0 := Ne.symm n
        rw [pset_at, pset_ne hj0]; exact key j hj0
      · by_cases hj0 : j = 0
        · subst hj0
          rw [pset_at, pset_ne hi0]; exact (key i hi0).symm
        · rw [pset_ne hi0, pset_ne hj0]; exact u1.ap i j b n
    · funext b
      by_cases hb : b = D
      · rw [hb, upd_same]; exact (eq.uni.mem _ _).mpr ⟨1, hqD⟩
      · rw [upd_ne hb, hid_ne hb]
theorem comp_tail {nt : Nat} {ts : List Str} {fs : List (Str × Nat)} {it : Mv (List Tv)} {g : TG} {f : Gv} {c : Mv Bool} {e : Mv Tv} (hn : ts.length = nt) (hg : TgOk K g f) (hk : keepsV f nt) (ho : noOw f) :
    ∀ σ H Q, tV K E (vComp nt (fs.map (·.2)) it f c e) σ H Q -> tComp (iV K E it) (fun σ => ts.map (fun _ => none) ++ fs.map fun p => (σ[p.2]?).join) g (tVt K (fun _ => E0) c) (tV K (fun _ => E0) e) σ H Q := by
  subst hn
  rintro σ H Q ⟨p, ρ, er, P, a, b, cc⟩
  refine ⟨p, ρ, er, _, a, fun l ρ1 q J p1 H1 g1 er1 hj D hD => ?_, fun c0 ρ1 q p1 H1 g1 er1 => cc c0 ρ1 q p1 H1 g1 er1⟩
  refine comp_core hg hk ho er1 hj hD q.1 q.2 fun acc ys G' H' w ra s0 u eH => ?_
  have e1 := er1.grow s0 u
  obtain ⟨e2, s2⟩ := e1.alloc (a := D) hid_at (.lst ys)
  rw [← eH, pset_at, pset_pset] at e2
  rw [pset_at] at s2
  exact b _ ρ1 w _ _ H' (g1.trans (grow0 (s0.trans s2))) e2 (rep_lst.mpr ⟨D, ys, rfl, by rw [pset_at]; exact upd_same, by rw [pset_at]; exact ra.up s2⟩)
theorem v_comp {elt tg iter : Expr} {ifs : List Expr} {scope : Scope} {pos : Pos} {ts : List Str} {fs : List (Str × Nat)} {g : TG} {nt : Nat} {it : Mv (List Tv)} {f : Gv} {c : Mv Bool} {e : Mv Tv}
    (hc : X.calm = true) (hF : Frees X scope (ts ++ fs.map (·.1)) (fun σ => ts.map (fun _ => none) ++ fs.map fun p => (σ[p.2]?).join)) (hvis : ∀ y ∈ scope.names, y.2 = .free -> X.env.kindOf y.1 = some .cell ∨ X.env.kindOf y.1 = some .free)
    (hcell : ∀ y ∈ scope.names, y.2 ≠ .cell) (hkind : scope.kind = .function) (hnames : ∀ y ∈ scope.names, y.2 = .local -> scope.names.lookup y.1 = some .local) (hfl : ∀ y, scope.names.lookup y = some .free -> (y, NameKind.free) ∈ scope.names)
    (hn : ts.length = nt) (hg : TgOk K g f) (hk : keepsV f nt) (ho : noOw f)
    (hi : PI X tg iter (iV K E it)) (hpg : ∀ cl C s H fp pins, PG (cxComp X (ts ++ fs.map (·.1)) scope cl C s H fp pins) tg g) (ht : ∀ cl C s H fp pins, PIf (cxComp X (ts ++ fs.map (·.1)) scope cl C s H fp pins) ifs (tVt K (fun _ => E0) c)) (he : ∀ cl C s H fp pins, PE (cxComp X (ts ++ fs.map (·.1)) scope cl C s H fp pins) elt (tV K (fun _ => E0) e))
    (hs : ∀ x, foldedSetIterable iter X.env x = pure x := by intro _; rfl) : PE X (.ListComp elt [⟨tg, iter, ifs, 0⟩] scope pos) (tV K E (vComp nt (fs.map (·.2)) it f c e)) :=
  (pe_comp hc hF hvis hcell hkind hnames hfl hi hpg ht he hs).imp (comp_tail hn hg hk ho)
theorem vif_nil : PIf X [] (tVt K E vYes) := pif_nil.imp fun _ _ _ h => yes_tail h
theorem vif_one {c : Expr} {m : Mv Bool} (h : PT X c (tVt K E m)) : PIf X [c] (tVt K E m) := pif_one h
structure Post (K : PySem.W.Frag) (E : St -> XK) (D : Ends) (P : Fl -> En -> Prop) (p : Pts) : Prop where
  nx : ∀ ρ', P .nx ρ' -> ∀ σ' p' H', Grow p p' -> ER K p' H' σ' ρ' -> D.nx σ' H'
  rt : ∀ r ρ', P (.rt r) ρ' -> ∀ v p' H', Grow p p' -> Uni H' p' -> (∀ j, 3 <= j -> p' j = noH) -> SlotR K (p' 0) (p' 2) (some v) r -> D.rt v H'
  bk : ∀ ρ', P .bk ρ' -> ∀ σ' p' H', Grow p p' -> ER K p' H' σ' ρ' -> D.bk σ' H'
  ct : ∀ ρ', P .ct ρ' -> ∀ σ' p' H', Grow p p' -> ER K p' H' σ' ρ' -> D.ct σ' H'
  er : ∀ c ρ', P (.er c) ρ' -> ∀ σ' p' H', Grow p p' -> ER K p' H' σ' ρ' -> E σ' (.ref c) none H'
def tS (K : PySem.W.Frag) (E : St -> XK) (b : Sv) : TS := fun D σ H => ∃ p ρ P, ER K p H σ ρ /\ b ρ P /\ Post K E D P p
theorem Post.grow {D : Ends} {P : Fl -> En -> Prop} {p p1 : Pts} (h : Post K E D P p) (g : Grow p p1) : Post K E D P p1 :=
  ⟨fun ρ q σ p' H' g' => h.nx ρ q σ p' H' (g.trans g'), fun r ρ q v p' H' g' => h.rt r ρ q v p' H' (g.trans g'), fun ρ q σ p' H' g' => h.bk ρ q σ p' H' (g.trans g'), fun ρ q σ p' H' g' => h.ct ρ q σ p' H' (g.trans g'), fun c ρ q σ p' H' g' => h.er c ρ q σ p' H' (g.trans g')⟩
theorem do_tail {α β : Type} {R : Hp -> α -> β -> Prop} {m : Mv α} {k : α -> Sv} {D : Ends} {σ : St} {H : Hp} {p : Pts} {ρ : En} {P : Fl -> En -> Prop} (a : vDo m k ρ P) (h : Post K E D P p) :
    tA K E R m p ρ σ (fun v H1 => ∃ x p1 ρ1, Grow p p1 /\ ER K p1 H1 σ ρ1 /\ R (p1 0) x v /\ k x ρ1 P /\ Post K E D P p1) :=
  ⟨_, a, fun x ρ' q v p' H' g e r => ⟨x, p', ρ', g, e, r, q, h.grow g⟩, fun c ρ' q p' H' g e => h.er c ρ' q σ p' H' g e⟩
theorem vs_nil : PSs X [] (tS K E vNext) := pss_nil.imp fun D σ H ⟨p, ρ, P, er, a, h⟩ => h.nx ρ a σ p H .refl er
theorem vs_cons {st : Stmt} {rest : List Stmt} {a b : Sv} (h1 : PS X st (tS K E a)) (h2 : PSs X rest (tS K E b)) : PSs X (st :: rest) (tS K E (vSeq a b)) :=
  (pss_cons h1 h2).imp fun D σ H ⟨p, ρ, P, er, a, h⟩ => ⟨p, ρ, _, er, a, ⟨fun ρ' q σ' p' H' g e => ⟨p', ρ', P, e, q, h.grow g⟩, h.rt, h.bk, h.ct, h.er⟩⟩
theorem vs_one {st : Stmt} {a : Sv} (h1 : PS X st (tS K E a)) : PSs X [st] (tS K E a) := pss_one h1
theorem set_tail {i : Nat} {m : Mv Tv} : ∀ D σ H, tS K E (vSet i m) D σ H -> tAsg (tV K E m) (gName i) D σ H := fun D σ H ⟨p, ρ, P, er, a, h⟩ =>
  ⟨p, ρ, er, (do_tail (H := H) a h).mono fun v H1 ⟨x, p1, ρ1, g1, er1, r1, q, h1⟩ => h1.nx _ q _ _ H1 (mv_grow i) (er1.set i r1)⟩
theorem vs_set {i : Nat} {x : Str} {e : Expr} {m : Mv Tv} {pos pos' : Pos} (hN : X.N.Nodup) (hi : X.N[i]? = some x) (hx : Loc X.env.scope x) (he : PE X e (tV K E m)) (hs : swapsWith e (some (.Name x pos')) pos.line X.env = pure false := by rfl) (hf : X.fn x = true ∨ X.env.scope.names.lookup x = some .local := by first | exact .inl rfl | exact .inr rfl | assumption) :
    PS X (.Assign [.Name x pos'] e pos) (tS K E (vSet i m)) := (ps_set hN hi hx he hs hf).imp set_tail
theorem vs_setc {i0 : Nat} {xn : Str} {pos' spos : Pos} {elt tg iter : Expr} {ifs : List Expr} {scope : Scope} {pos : Pos} {ts : List Str} {fs : List (Str × Nat)} {g : TG} {nt : Nat} {it : Mv (List Tv)} {f : Gv} {c : Mv Bool} {e : Mv Tv}
    (hN0 : X.N.Nodup) (hi0 : X.N[i0]? = some xn) (hx0 : X.env.scope.names.lookup xn = some .local)
    (hc : X.calm = true) (hF : Frees X scope (ts ++ fs.map (·.1)) (fun σ => ts.map (fun _ => none) ++ fs.map fun p => (σ[p.2]?).join)) (hvis : ∀ y ∈ scope.names, y.2 = .free -> X.env.kindOf y.1 = some .cell ∨ X.env.kindOf y.1 = some .free)
    (hcell : ∀ y ∈ scope.names, y.2 ≠ .cell) (hkind : scope.kind = .function) (hnames : ∀ y ∈ scope.names, y.2 = .local -> scope.names.lookup y.1 = some .local) (hfl : ∀ y, scope.names.lookup y = some .free -> (y, NameKind.free) ∈ scope.names)
    (hn : ts.length = nt) (hg : TgOk K g f) (hk : keepsV f nt) (ho : noOw f)
    (hi : PI X tg iter (iV K E it)) (hpg : ∀ cl C s H fp pins, PG (cxComp X (ts ++ fs.map (·.1)) scope cl C s H fp pins) tg g) (ht : ∀ cl C s H fp pins, PIf (cxComp X (ts ++ fs.map (·.1)) scope cl C s H fp pins) ifs (tVt K (fun _ => E0) c)) (he : ∀ cl C s H fp pins, PE (cxComp X (ts ++ fs.map (·.1)) scope cl C s H fp pins) elt (tV K (fun _ => E0) e))
    (hs : ∀ x, foldedSetIterable iter X.env x = pure x := by intro _; rfl) (hsw : swapsWith (.ListComp elt [⟨tg, iter, ifs, 0⟩] scope pos) (some (.Name xn pos')) spos.line X.env = pure true := by rfl) :
    PS X (.Assign [.Name xn pos'] (.ListComp elt [⟨tg, iter, ifs, 0⟩] scope pos) spos) (tS K E (vSet i0 (vComp nt (fs.map (·.2)) it f c e))) :=
  (ps_setc hN0 hi0 hx0 hc hF hvis hcell hkind hnames hfl hi hpg ht he hs hsw).imp fun D σ H h => comp_tail hn hg hk ho σ H _ (set_tail D σ H h)
theorem vs_asg {tg e : Expr} {g : TG} {f : Gv} {m : Mv Tv} {pos : Pos} (he : PE X e (tV K E m)) (hpg : PG X tg g) (hg : TgOk K g f) (hs : swapsWithSole [tg] e pos.line X.env = pure false := by rfl) (hw : swappedStores [tg] e X.env = pure none := by rfl)
    (h1 : (assignEach [tg] X.env).map (·.2) = [assign tg X.env] := by rfl) : PS X (.Assign [tg] e pos) (tS K E (vAsg f m)) :=
  (ps_asg he hpg hs hw h1).imp fun D σ H ⟨p, ρ, P, er, a, h⟩ => ⟨p, ρ, er, (do_tail (H := H) a h).mono fun v H1 ⟨x, p1, ρ1, g1, er1, r1, q, h1⟩ => by
    obtain ⟨ρ', e, q⟩ := q
    exact hg p1 H1 σ ρ1 x v ρ' _ er1 r1 e fun σ' p' g' e' => h1.nx ρ' q σ' p' H1 g' e'⟩
theorem vs_par {i j : Nat} {x y : Str} {a b : Expr} {m n : Mv Tv} {px py pt pos : Pos} {kt k2 pt2} (hc : X.calm = true) (hN : X.N.Nodup) (hi : X.N[i]? = some x) (hj : X.N[j]? = some y) (hij : i ≠ j)
    (hx : X.env.scope.names.lookup x = some .local) (hy : X.env.scope.names.lookup y = some .local) (ha : PA X [a, b] (tVa K E [m, n]))
    (hw : swappedStores [.Tuple [.Name x px, .Name y py] kt pt] (.Tuple [a, b] k2 pt2) X.env = pure (some [x, y]))
    (hs : swapsWithSole [.Tuple [.Name x px, .Name y py] kt pt] (.Tuple [a, b] k2 pt2) pos.line X.env = pure false := by rfl) :
    PS X (.Assign [.Tuple [.Name x px, .Name y py] kt pt] (.Tuple [a, b] k2 pt2) pos) (tS K E (vPar i j m n)) :=
  (ps_par hc hN hi hj hij hx hy ha.toS hw hs).imp fun D σ H ⟨p, ρ, P, er, a, h⟩ => ⟨p, ρ, er, (do_tail (H := H) a h).mono fun vs H1 ⟨xs, p1, ρ1, g1, er1, r1, q, h1⟩ => by
    match xs, q with
    | [s, t], q =>
      obtain ⟨v, r, rfl, a1, a2⟩ := repL_cons.mp r1
      obtain ⟨v', r', rfl, a3, a4⟩ := repL_cons.mp a2
      rw [repL_nil.mp a4]
      refine ⟨v, v', rfl, h1.nx _ q _ _ H1 ((mv_grow i).trans (mv_grow j)) ((er1.set i a1).set j (a3.up (mv_grow i).same))⟩⟩
theorem ret_uni {H : Hp} {p : Pts} {t : Tv} {v : V} (u : Uni H p) (r : Rep K (p 0) t v) : ∃ p', Grow p p' /\ Uni H p' /\ (∀ j, 3 <= j -> p' j = noH) /\ SlotR K (p' 0) (p' 2) (some v) (.va t) := by
  have u2 := u.mv (j := 2) (by decide)
  have hb := u2.gather 2 (by decide) (by decide)
  rw [mv_at, mv_ne (k := 1) (by decide) (by decide)] at hb
  have s2 : Same (p 0) (butH H (p 1) noH) := (mv_grow (p := p) 0).same.trans hb.2
  exact ⟨three (butH H (p 1) noH) (p 1) noH, ⟨s2, rfl⟩, hb.1, three_ge, rfl, v, rfl, r.up s2⟩
theorem vs_ret {e : Expr} {m : Mv Tv} {pos : Pos} (he : PE X e (tV K E m)) : PS X (.Return (some e) pos) (tS K E (vRet m)) :=
  (ps_ret he).imp fun D σ H ⟨p, ρ, P, er, a, h⟩ => ⟨p, ρ, er, (do_tail (H := H) a h).mono fun v H1 ⟨x, p1, ρ1, g1, er1, r1, q, h1⟩ =>
    let ⟨p', g', u', h3, s'⟩ := ret_uni er1.uni r1; h1.rt _ ρ1 q v p' H1 g' u' h3 s'⟩
theorem vs_if {c : Expr} {a b : List Stmt} {m : Mv Bool} {sa sb : Sv} {pos : Pos} (hc : PT X c (tVt K E m)) (ha : PSs X a (tS K E sa)) (hb : PSs X b (tS K E sb)) : PS X (.If c a b pos) (tS K E (vIfS m sa sb)) :=
  (ps_if hc ha hb).imp fun D σ H ⟨p, ρ, P, er, a, h⟩ => ⟨p, ρ, er, (do_tail (H := H) a h).mono fun v H1 ⟨x, p1, ρ1, g1, er1, r1, q, h1⟩ => by
    have r1 : v = x := r1
    subst r1
    cases v with
    | true => exact ⟨p1, ρ1, P, er1, q, h1⟩
    | false => exact ⟨p1, ρ1, P, er1, q, h1⟩⟩
theorem vs_newL {i : Nat} {x : Str} {es : List Expr} {ms : List (Mv Tv)} {pos pos' lp : Pos} (hN : X.N.Nodup) (hi : X.N[i]? = some x) (hx : Loc X.env.scope x) (he : PA X es (tVa K E ms)) (hz : ms.length <= 1000 := by decide) (hs : swapsWith (.List es lp) (some (.Name x pos')) pos.line X.env = pure false := by rfl) (hf : X.fn x = true ∨ X.env.scope.names.lookup x = some .local := by first | exact .inl rfl | exact .inr rfl | assumption) :
    PS X (.Assign [.Name x pos'] (.List es lp) pos) (tS K E (vNewL i ms)) := fun pins s σ H D I ⟨p, ρ, P, er, a, h⟩ => by
  refine ps_set hN hi hx (pe_lst he) hs hf pins s σ H D I ⟨p, ρ, er, (do_tail (H := H) a h).mono fun vs H1 ⟨xs, p1, ρ1, g1, er1, r1, q, h1⟩ hlen => ?_⟩
  refine ⟨by rw [hlen]; exact le_line hz, fun Da hD => ?_⟩
  have hl : i < ρ1.length := by
    have h0 : i < X.N.length := (List.getElem?_eq_some_iff.mp hi).1
    rw [← er1.len, I.len]; exact h0
  obtain ⟨e2, g2⟩ := er1.setNew hl hD r1
  exact h1.nx _ (q Da) _ _ _ g2 e2
theorem vs_app {i : Nat} {x : Str} {e : Expr} {m : Mv Tv} {xp ap cp pos : Pos} (hK : X.K = K) (hN : X.N[i]? = some x) (hv : Vis X.env.scope x) (he : PE X e (tV K E m)) (hst : starEach [e] X.env = [(false, eval e X.env)] := by rfl)
    (hbase : attributeBase (.Name x xp) "append" X.env (eval (.Name x xp) X.env) = eval (.Name x xp) X.env := by rfl)
    (hfew : ((backTo cp (starEach [e] X.env)).all (fun x => !x.1) && (backToKw cp (keywordEach [] X.env)).all (fun x => x.1.isSome) && decide (([e] : List Expr).length + ([] : List Keyword).length + (if ([] : List Keyword).isEmpty then 0 else 1) < 30)) = true := by rfl)
    (hline : (ap.endLine == cp.line) = true := by rfl) (hsw : swapsWith (.Call (.Attribute (.Name x xp) "append" ap) [e] [] cp) none pos.line X.env = pure false := by rfl) (hd : (x == ("__debug__" : Str)) = false := by decide) (hcd : (x == ("__classdict__" : Str)) = false := by decide) :
    PS X (.Expr (.Call (.Attribute (.Name x xp) "append" ap) [e] [] cp) pos) (tS K E (vApp i m)) := by
  subst hK
  refine (ps_expr (pe_bm PySem.F.plainAttrs_list PySem.F.slot_list_append PySem.F.type_list_append mt_append (pe_var hN hv hd hcd) (pa_cons he pa_nil hst) hbase hfew hline hst rfl) hsw).imp fun D σ H ⟨p, ρ, P, er, a, h⟩ => ?_
  unfold vApp at a
  split at a
  · rename_i Da l e
    obtain ⟨xs, e1, e2, e3, r⟩ := er.own e
    refine ⟨.ref Da, e1, .inl ⟨rfl, xs, SqL.of e2⟩, p, ρ, er, (do_tail (H := H) a h).mono fun v H1 ⟨t, p1, ρ1, g1, er1, r1, q, h1⟩ => ?_⟩
    split at q
    · rename_i Db l' e'
      obtain ⟨ys, f1, f2, f3, rr⟩ := er1.own e'
      rw [e1] at f1
      cases f1
      obtain ⟨e5, g5⟩ := er1.putOwn e' (rr.app (.cons r1 .nil))
      exact ⟨Da, ys, v, rfl, rfl, f2, by rw [rr.len]; exact q.1, h1.nx _ q.2 σ _ _ g5 e5⟩
    · exact q.elim
  · exact a.elim
theorem vs_put {i : Nat} {x : Str} {e k : Expr} {m n : Mv Tv} {xp sp pos : Pos} (hN : X.N[i]? = some x) (hv : Vis X.env.scope x) (he : PE X e (tV K E m)) (hk : PE X k (tV K E n))
    (ha : ∀ v, assign (.Subscript (.Name x xp) k sp) X.env v = (do
      let ov ← holding [v] (eval (.Name x xp) X.env)
      let iv ← holding [v, ov] (eval k X.env)
      standAt sp
      holding [v, ov, iv] (setItem ov iv v)
      release [v, ov, iv] []) := by intro _; rfl)
    (hs : swapsWithSole [.Subscript (.Name x xp) k sp] e pos.line X.env = pure false := by rfl) (hw : swappedStores [.Subscript (.Name x xp) k sp] e X.env = pure none := by rfl)
    (h1 : (assignEach [.Subscript (.Name x xp) k sp] X.env).map (·.2) = [assign (.Subscript (.Name x xp) k sp) X.env] := by rfl) (hd : (x == ("__debug__" : Str)) = false := by decide) (hcd : (x == ("__classdict__" : Str)) = false := by decide) :
    PS X (.Assign [.Subscript (.Name x xp) k sp] e pos) (tS K E (vPut i n m)) :=
  (ps_asg he (pg_sub (pe_var hN hv hd hcd) hk set_list ha) hs hw h1).imp fun D σ H ⟨p, ρ, P, er, a, h⟩ => ⟨p, ρ, er, (do_tail (H := H) a h).mono fun v H1 ⟨t, p1, ρ1, g1, er1, r1, q, h1⟩ => by
    split at q
    · rename_i Da l e
      obtain ⟨xs, e1, e2, e3, r⟩ := er1.own e
      refine ⟨.ref Da, e1, p1, ρ1, er1, (do_tail (H := H1) q h1).mono fun kv H2 ⟨kt, p2, ρ2, g2, er2, r2, q2, h2⟩ => ?_⟩
      split at q2
      · rename_i n' Db l' e'
        obtain ⟨ys, f1, f2, f3, rr⟩ := er2.own e'
        rw [e1] at f1
        cases f1
        split at q2
        · rename_i j ej
          obtain ⟨e5, g5⟩ := er2.putOwn e' (rr.set (r1.up g2.same) j)
          exact ⟨Da, ys, n', j, rfl, rep_int.mp r2, f2, by rw [rr.len]; exact ej, h2.nx _ q2 σ _ _ g5 e5⟩
        · exact q2.elim
      · exact q2.elim
    · exact q.elim⟩
theorem vs_frz {st : Stmt} {b : Sv} (i : Nat) (h : PS X st (tS K E b)) : PS X st (tS K E (vFrz i b)) := h.imp fun D σ H ⟨p, ρ, P, er, a, h⟩ =>
  let ⟨p', e', g'⟩ := er.frz i; ⟨p', _, P, e', a, h.grow g'⟩
theorem vs_for {tg iter : Expr} {body : List Stmt} {pos : Pos} {it : Mv (List Tv)} {g : TG} {f : Gv} {b : Sv} (hp : PassesOwn (model X.prog X.w) X.A X.env X.xe) (hc : X.calm = true) (hi : PI X tg iter (iV K E it)) (hpg : PG X tg g) (hg : TgOk K g f) (hb : PSs X body (tS K E b))
    (hs : ∀ x, foldedSetIterable iter X.env x = pure x := by intro _; rfl) : PS X (.For tg iter body [] pos) (tS K E (vFor it f b)) :=
  (ps_for hp hc hi hpg hb hs).imp fun D σ H ⟨p, ρ, P, er, a, h⟩ => by
    refine ⟨p, ρ, er, _, a, fun l ρ1 q J p1 H1 g1 er1 hj => ?_, fun c0 ρ1 q p1 H1 g1 er1 => h.er c0 ρ1 q σ p1 H1 g1 er1⟩
    refine ⟨fun i m σ' H' => m = l.length - i /\ i <= l.length /\ ∃ p' ρ', Grow p1 p' /\ ER K p' H' σ' ρ' /\ forW f b (l.drop i) ρ' P, ⟨l.length, by simp, Nat.zero_le _, p1, ρ1, .refl, er1, by have q : forW f b l ρ1 P := q; simpa using q⟩, ?_⟩
    rintro i m σ' H' ⟨rfl, hi, p', ρ', g', e', w⟩
    obtain ⟨jg, js⟩ := hj p' H' g'.same e'.uni
    by_cases hlt : i < l.length
    · rw [List.drop_eq_getElem_cons hlt] at w
      obtain ⟨ρ2, eg, w⟩ := w
      obtain ⟨go, yl⟩ := jg i l[i] (List.getElem?_eq_getElem hlt)
      refine .inr ⟨go, fun σ'' H'' => ∃ p'' ρ'', Grow p1 p'' /\ ER K p'' H'' σ'' ρ'' /\ forW f b (l.drop (i + 1)) ρ'' P, fun σ'' H'' ⟨p'', ρ'', a, b, c⟩ => ⟨l.length - (i + 1), by omega, rfl, hlt, p'', ρ'', a, b, c⟩, fun x H2 y => ?_⟩
      obtain ⟨G2, s2, u2, r2⟩ := yl x H2 y
      have e2 := e'.grow s2 u2
      refine hg _ H2 σ' _ l[i] x ρ2 _ e2 (by rw [pset_at]; exact r2) eg fun σ2 q3 g3 e3 => ?_
      have g13 := g'.trans ((grow0 s2).trans g3)
      have h3 := h.grow (g1.trans g13)
      exact ⟨q3, ρ2, _, e3, w, ⟨fun ρ4 q4 σ4 p4 H4 g4 e4 => ⟨p4, ρ4, g13.trans g4, e4, q4⟩, h3.rt, fun ρ4 q4 σ4 p4 H4 g4 e4 => h3.nx ρ4 q4 σ4 p4 H4 g4 e4, fun ρ4 q4 σ4 p4 H4 g4 e4 => ⟨p4, ρ4, g13.trans g4, e4, q4⟩, h3.er⟩⟩
    · have ei : i = l.length := by omega
      subst ei
      rw [List.drop_length] at w
      exact .inl ⟨js, (h.grow (g1.trans g')).nx ρ' w σ' p' H' .refl e'⟩
theorem vs_while {c : Expr} {body : List Stmt} {pos : Pos} {m : Mv Bool} {b : Sv} (hp : PassesOwn (model X.prog X.w) X.A X.env X.xe) (hc : PT X c (tVt K E m)) (hb : PSs X body (tS K E b)) : PS X (.While c body [] pos) (tS K E (vWhile m b)) :=
  (ps_while hp hc hb).imp fun D σ H ⟨p, ρ, P, er, ⟨W, ⟨m0, w0⟩, turn⟩, h⟩ => by
    refine ⟨fun n σ' H' => ∃ p' ρ', Grow p p' /\ ER K p' H' σ' ρ' /\ W n ρ', ⟨m0, p, ρ, .refl, er, w0⟩, ?_⟩
    rintro n σ' H' ⟨p', ρ', g', e', w⟩
    refine ⟨p', ρ', e', _, turn n ρ' w, fun x ρ1 q v p1 H1 g1 e1 r1 => ?_, fun c0 ρ1 q p1 H1 g1 e1 => (h.grow g').er c0 ρ1 q σ' p1 H1 g1 e1⟩
    have r1 : v = x := r1
    subst r1
    have g01 := g'.trans g1
    have h1 := h.grow g01
    cases v with
    | true =>
      exact ⟨fun σ2 H2 => ∃ p2 ρ2, Grow p p2 /\ ER K p2 H2 σ2 ρ2 /\ ∃ m', m' < n /\ W m' ρ2, fun σ2 H2 ⟨p2, ρ2, a, b, m', c, d⟩ => ⟨m', c, p2, ρ2, a, b, d⟩,
        p1, ρ1, _, e1, q, ⟨fun ρ4 q4 σ4 p4 H4 g4 e4 => ⟨p4, ρ4, g01.trans g4, e4, q4⟩, h1.rt, fun ρ4 q4 σ4 p4 H4 g4 e4 => h1.nx ρ4 q4 σ4 p4 H4 g4 e4, fun ρ4 q4 σ4 p4 H4 g4 e4 => ⟨p4, ρ4, g01.trans g4, e4, q4⟩, h1.er⟩⟩
    | false => exact h1.nx ρ1 q σ' p1 H1 .refl e1
theorem er_start {p : Pts} {H : Hp} {N : List Str} {ts : List Tv} {vs : List V} (u : Uni H p) (h2 : ∀ j, 2 <= j -> p j = noH) (r : RepL K (p 0) ts vs) (hl : ts.length <= N.length) : ER K p H (start N vs) (ts.map Sl.va ++ List.replicate (N.length - ts.length) Sl.un) := by
  have hvl := r.len
  refine ⟨u, ?_, fun i s e => ?_, fun i _ => h2 _ (by omega)⟩
  · unfold start
    rw [List.length_append, List.length_map, List.length_replicate, List.length_append, List.length_map, List.length_replicate, hvl]
  · rw [h2 (i + 2) (by omega)]
    by_cases hi : i < ts.length
    · rw [List.getElem?_append_left (by simpa using hi), List.getElem?_map] at e
      obtain ⟨t, ht, rfl⟩ := Option.map_eq_some_iff.mp e
      obtain ⟨v, hv, q⟩ := r.get ht
      refine ⟨rfl, v, ?_, q⟩
      unfold start
      rw [List.getElem?_append_left (by simpa [hvl] using hi), List.getElem?_map, hv]
      rfl
    · rw [List.getElem?_append_right (by simpa using hi), List.getElem?_replicate] at e
      split at e
      · cases e; rfl
      · cases e
theorem fn_V {P : Program} {w : World} {mg : Str -> Option Value} {base : Heap} {x qual : Str} {st : Stmt} {f : Addr} {fd : FuncData} {N ps : List Str} {k : Nat} {C : Ct} (F : Fun K x qual st f fd) (S : FnScope N ps (defScope st)) (b : Sv) (hl : ∀ ts Q, C ts Q -> ts.length = ps.length) (hC : ∀ ts Q, C ts Q -> bodyC N.length b ts Q)
    (hb : ∀ (cdv : Value) (A : Around) (outer : List Env) (s : Shared) (H : Hp) (E : XK), Room k (A.deeper (envOfC qual (defScope st) s.heap.objs.size f cdv)) -> PSs (cxOf (CXF P w) P w K mg base N qual (defScope st) f cdv A outer s H E) (defBody st) (tS K (fun _ => E) b)) :
    FnOk P w K mg base (CXF P w) (k + 1) f fd ps (spV K C) := by
  have hps : ps.length <= N.length := by have := congrArg List.length S.pre; rw [List.length_take] at this; omega
  refine F.okX S (fun vs H Q E ⟨p, ts, P, u, h2, r, c, _⟩ => by rw [r.len]; exact hl ts _ c) fun cdv A outer s H vs Q E hr ⟨p, ts, P', u, h2, r, c, hok, her⟩ => ⟨_, hb cdv A outer s H E hr, ?_⟩
  have hts := hl ts _ c
  refine ⟨p, _, _, er_start u h2 r (by omega), hC ts _ c, ⟨fun ρ' q σ' p' H' g e => ?_, fun r' ρ' q v p' H' g u' h3 s' => hok r' q v p' H' g u' h3 s', fun ρ' q => q.elim, fun ρ' q => q.elim, fun c0 ρ' q σ' p' H' g e => ?_⟩⟩
  · obtain ⟨p2, g2, u2, h3, s2⟩ := ret_uni (K := K) (t := .non) (v := .non) e.uni (rep_non.mpr rfl)
    exact hok _ q _ p2 H' (g.trans g2) u2 h3 s2
  · obtain ⟨p2, g2, u2, h3, s2⟩ := ret_uni (K := K) (t := .non) (v := .non) e.uni (rep_non.mpr rfl)
    exact her c0 q p2 H' (g.trans g2) u2 fun j hj => by
      by_cases e : j = 2
      · subst e; exact s2.1
      · exact h3 j (by omega)
end
end L2
set_option Elab.async false
set_option linter.all false
set_option maxRecDepth 100000
set_option maxHeartbeats 4000000
namespace L2
open PySem PySem.Spec PyProof.Rows
theorem OpR.imp {X : Cx} {f : Value -> Value -> Sem Value} {r r' : R2} (h : OpR X f r) (k : ∀ x y H Q, r' x y H Q -> r x y H Q) : OpR X f r' := fun pins s σ H x y v u Q I rx ry q => h pins s σ H x y v u Q I rx ry (k _ _ _ _ q)
theorem IxR.imp {X : Cx} {r r' : R2} (h : IxR X r) (k : ∀ x y H Q, r' x y H Q -> r x y H Q) : IxR X r' := fun a b pins s σ H x y v u Q I rx ry q hs => h a b pins s σ H x y v u Q I rx ry (k _ _ _ _ q) hs
theorem CallR.imp {X : Cx} {f : Value} {r r' : List V -> Hp -> VK -> Prop} (h : CallR X f r) (k : ∀ x H Q, r' x H Q -> r x H Q) : CallR X f r' := fun pins s σ H xs us Q I rv q => h pins s σ H xs us Q I rv (k _ _ _ q)
theorem UnR.imp {X : Cx} {f : Value -> Sem Value} {r r' : V -> Hp -> VK -> Prop} (h : UnR X f r) (k : ∀ x H Q, r' x H Q -> r x H Q) : UnR X f r' := fun pins s σ H x v Q I rx q => h pins s σ H x v Q I rx (k _ _ _ q)
section
variable {X : Cx} {K : PySem.W.Frag}
theorem keep0 {p : Pts} {H : Hp} {Q : VK} {P : Tv -> Prop} {t : Tv} {v : V} (u : Uni H p) (q : P t) (k : ∀ t, P t -> ∀ v G' H', Same (p 0) G' -> Uni H' (pset p 0 G') -> Rep K G' t v -> Q v H') (r : Rep K (p 0) t v) : Q v H := k t q v (p 0) H (Same.refl _) (uni0 u) r
theorem laid0 {p : Pts} {H : Hp} {Q : VK} {P : Tv -> Prop} {t : Tv} {a : Addr} {o : HO} (u : Uni H p) (q : P t) (k : ∀ t, P t -> ∀ v G' H', Same (p 0) G' -> Uni H' (pset p 0 G') -> Rep K G' t v -> Q v H') (n : H a = none) (r : Same (p 0) (upd (p 0) a o) -> Rep K (upd (p 0) a o) t (.ref a)) : Q (.ref a) (upd H a o) := by
  have s0 : Same (p 0) (upd (p 0) a o) := fun b o' e => by rw [upd_ne (ne_of_none e (u.fresh n 0))]; exact e
  exact k t q _ _ _ s0 (u.alloc n 0 o) (r s0)
theorem op_cat3 (hK : X.K = K) : OpR X (binaryOp .Add) (fun x y H Q => ∃ a b xs ys, x = .ref a /\ y = .ref b /\ SqT K H a xs /\ SqT K H b ys /\ xs.length + ys.length <= sizeLine /\ (xs = [] -> Q (.ref b) H) /\ (ys = [] -> Q (.ref a) H) /\ ∀ p, H p = none -> Q (.ref p) (upd H p (.tup (xs ++ ys)))) := by
  subst hK
  intro pins s σ H x y v u Q I rx ry h
  obtain ⟨a, b, xs, ys, rfl, rfl, ha, hb, hz, q0, q1, q2⟩ := h
  by_cases hx : xs = []
  · subst hx
    cases rx
    cases ry
    obtain ⟨its, r1, p1, _⟩ := I.tuple ha
    obtain ⟨its2, r2, p2, _⟩ := I.tuple hb
    cases r1
    obtain ⟨⟨cls, dd, data, sl⟩, ho, hc, n, hd⟩ := id p1
    obtain ⟨⟨cls2, dd2, data2, sl2⟩, ho2, hc2, n2, hd2⟩ := id p2
    simp only at hc hd hc2 hd2
    subst hc hd hc2 hd2
    exact concat_meets ⟨_, ho, rfl⟩ ⟨_, ho2, rfl⟩ noFill_tuple_add seq_tuple_add PySem.F.slot_tuple_add PySem.F.entry_tuple_add (PySem.F.args_tuple_add_2 _ _)
      (tuple_addW0 a b ([] : List Value).toArray its2.toArray n n2 dd dd2 sl sl2 (by simp)) ⟨ho, ho2, ⟨.ref b, H, I, rfl, q0 rfl⟩⟩
  · exact op_catT pins s σ H _ _ _ _ Q I rx ry ⟨a, b, xs, ys, rfl, rfl, ha, hb, hx, hz, q1, fun _ p hp => q2 p hp⟩
theorem RepL.nil_of {G : Hp} {l : List Tv} (h : RepL K G l []) : l = [] := List.eq_nil_of_length_eq_zero h.len.symm
def BM : Nat := 2 ^ 1048576
theorem lt_BM {n k : Nat} (h : n < 2 ^ k) (hk : k <= 1048576) : n < BM := Nat.lt_of_lt_of_le h (Nat.pow_le_pow_right (by decide) hk)
def wAdd : Tv -> Tv -> (Tv -> Prop) -> Prop
  | .int i, .int j, k => k (.int (i + j))
  | .str i, .str j, k => i.length + j.length <= sizeLine /\ k (.str (i ++ j))
  | .tup a, .tup b, k => a.length + b.length <= sizeLine /\ k (.tup (a ++ b))
  | .lst a, .lst b, k => a.length + b.length <= sizeLine /\ k (.lst (a ++ b))
  | _, _, _ => False
theorem o_add (hK : X.K = K) : OpR X (binaryOp .Add) (rV K wAdd) := by
  refine (op_add.or (op_add_str.or ((op_cat3 hK).or op_cat))).imp fun x y H Q ⟨p, a, b, P, u, ra, rb, w, k⟩ => ?_
  match a, b, w with
  | .int i, .int j, w => exact .inl ⟨i, j, rep_int.mp ra, rep_int.mp rb, keep0 u w k (rep_int.mpr rfl)⟩
  | .str i, .str j, w => exact .inr (.inl ⟨i, j, rep_str.mp ra, rep_str.mp rb, w.1, keep0 u w.2 k (rep_str.mpr rfl)⟩)
  | .tup l, .tup m, w =>
    obtain ⟨c, xs, rfl, s1, q1⟩ := rep_tupS ra
    obtain ⟨d, ys, rfl, s2, q2⟩ := rep_tupS rb
    refine .inr (.inr (.inl ⟨c, d, xs, ys, rfl, rfl, (u.sub 0).seqT s1, (u.sub 0).seqT s2, by rw [q1.len, q2.len]; exact w.1, fun e => ?_, fun e => ?_, fun a n => laid0 u w.2 k n fun s0 => rep_tup.mpr ⟨a, _, rfl, SqN.of upd_same, (q1.app q2).up s0⟩⟩))
    · subst e
      have e := q1.nil_of
      subst e
      exact keep0 u w.2 k rb
    · subst e
      have e := q2.nil_of
      subst e
      refine keep0 u w.2 k (t := .tup (l ++ [])) ?_
      rw [List.append_nil]
      exact ra
  | .lst l, .lst m, w =>
    obtain ⟨c, xs, rfl, s1, q1⟩ := rep_lst.mp ra
    obtain ⟨d, ys, rfl, s2, q2⟩ := rep_lst.mp rb
    refine .inr (.inr (.inr ⟨c, d, xs, ys, rfl, rfl, u.sub 0 _ _ s1, u.sub 0 _ _ s2, by rw [q1.len, q2.len]; exact w.1, fun a n => laid0 u w.2 k n fun s0 => rep_lst.mpr ⟨a, _, rfl, upd_same, (q1.app q2).up s0⟩⟩))
def wSub : Tv -> Tv -> (Tv -> Prop) -> Prop
  | .int i, .int j, k => k (.int (i - j))
  | _, _, _ => False
theorem o_sub : OpR X (binaryOp .Sub) (rV K wSub) := op_sub.imp fun x y H Q ⟨p, a, b, P, u, ra, rb, w, k⟩ => by
  match a, b, w with
  | .int i, .int j, w => exact ⟨i, j, rep_int.mp ra, rep_int.mp rb, keep0 u w k (rep_int.mpr rfl)⟩
def wMul : Tv -> Tv -> (Tv -> Prop) -> Prop
  | .int i, .int j, k => (i.natAbs < BM /\ j.natAbs < BM) /\ k (.int (i * j))
  | .lst l, .int j, k => (-(2 ^ 63) <= j /\ j < 2 ^ 63 /\ l.length * j.toNat <= sizeLine) /\ k (.lst (List.replicate j.toNat l).flatten)
  | _, _, _ => False
theorem o_mul : OpR X (binaryOp .Mult) (rV K wMul) := (op_mulF.or op_rep).imp fun x y H Q ⟨p, a, b, P, u, ra, rb, w, k⟩ => by
  match a, b, w with
  | .int i, .int j, w => exact .inl ⟨i, j, rep_int.mp ra, rep_int.mp rb, ⟨1048576, by decide, w.1.1, w.1.2⟩, keep0 u w.2 k (rep_int.mpr rfl)⟩
  | .lst l, .int j, w =>
    obtain ⟨c, xs, rfl, s1, q1⟩ := rep_lst.mp ra
    exact .inr ⟨c, j, xs, rfl, rep_int.mp rb, u.sub 0 _ _ s1, w.1.1, w.1.2.1, by rw [q1.len]; exact w.1.2.2, fun a n => laid0 u w.2 k n fun s0 => rep_lst.mpr ⟨a, _, rfl, upd_same, (q1.rep _).up s0⟩⟩
def wDivC (j : Int) : Tv -> (Tv -> Prop) -> Prop
  | .int i, k => k (.int (i / j))
  | _, _ => False
def wModC (j : Int) : Tv -> (Tv -> Prop) -> Prop
  | .int i, k => k (.int (i % j))
  | _, _ => False
def wDivP : Tv -> Tv -> (Tv -> Prop) -> Prop
  | .int i, .int j, k => (0 < j /\ j < 1073741824) /\ k (.int (i / j))
  | _, _, _ => False
theorem o_divP : OpR X (binaryOp .FloorDiv) (rV K wDivP) := op_fdiv.imp fun x y H Q ⟨p, a, b, P, u, ra, rb, w, k⟩ => by
  match a, b, w with
  | .int i, .int j, w => exact ⟨i, j, rep_int.mp ra, rep_int.mp rb, w.1, keep0 u w.2 k (rep_int.mpr rfl)⟩
def wDivB : Tv -> Tv -> (Tv -> Prop) -> Prop
  | .int i, .int j, k => (j ≠ 0 /\ j.natAbs.log2 < 9000) /\ k (.int (i.fdiv j))
  | _, _, _ => False
theorem o_divB : OpR X (binaryOp .FloorDiv) (rV K wDivB) := op_fdivB.imp fun x y H Q ⟨p, a, b, P, u, ra, rb, w, k⟩ => by
  match a, b, w with
  | .int i, .int j, w => exact ⟨i, j, rep_int.mp ra, rep_int.mp rb, w.1, keep0 u w.2 k (rep_int.mpr rfl)⟩
def wModP : Tv -> Tv -> (Tv -> Prop) -> Prop
  | .int i, .int j, k => 0 < j /\ k (.int (i % j))
  | _, _, _ => False
theorem o_modP : OpR X (binaryOp .Mod) (rV K wModP) := op_mod.imp fun x y H Q ⟨p, a, b, P, u, ra, rb, w, k⟩ => by
  match a, b, w with
  | .int i, .int j, w => exact ⟨i, j, rep_int.mp ra, rep_int.mp rb, w.1, keep0 u w.2 k (rep_int.mpr rfl)⟩
theorem v_divC {E : St -> XK} {a : Expr} {m : Mv Tv} {j : Int} {n : Nat} {cp pos : Pos} (ha : PE X a (tV K E m)) (hj : 0 < j /\ j < 1073741824 := by decide) : PE X (.BinOp a .FloorDiv (.Constant (.int j) n cp) pos) (tV K E (vUn (wDivC j) m)) :=
  (v_op (W := wDivP) o_divP ha v_int).imp fun σ H Q ⟨p, ρ, er, P, a, b, c⟩ => ⟨p, ρ, er, P, by
    refine cast ?_ a
    show m ρ _ = m ρ _
    congr 1
    funext r ρ1
    cases r with
    | er c => rfl
    | ok x =>
      cases x with
      | int i => exact propext ⟨fun h => ⟨hj, h⟩, fun h => h.2⟩
      | _ => rfl, b, c⟩
theorem v_modC {E : St -> XK} {a : Expr} {m : Mv Tv} {j : Int} {n : Nat} {cp pos : Pos} (ha : PE X a (tV K E m)) (hj : 0 < j := by decide) : PE X (.BinOp a .Mod (.Constant (.int j) n cp) pos) (tV K E (vUn (wModC j) m)) :=
  (v_op (W := wModP) o_modP ha v_int).imp fun σ H Q ⟨p, ρ, er, P, a, b, c⟩ => ⟨p, ρ, er, P, by
    refine cast ?_ a
    show m ρ _ = m ρ _
    congr 1
    funext r ρ1
    cases r with
    | er c => rfl
    | ok x =>
      cases x with
      | int i => exact propext ⟨fun h => ⟨hj, h⟩, fun h => h.2⟩
      | _ => rfl, b, c⟩
def wNeg : Tv -> (Tv -> Prop) -> Prop
  | .int i, k => k (.int (-i))
  | _, _ => False
theorem o_neg : UnR X (unaryOp .USub) (rV1 K wNeg) := un_neg.imp fun x H Q ⟨p, a, P, u, ra, w, k⟩ => by
  match a, w with
  | .int i, w => exact ⟨i, rep_int.mp ra, keep0 u w k (rep_int.mpr rfl)⟩
def wLt : Tv -> Tv -> (Tv -> Prop) -> Prop
  | .int i, .int j, k => k (.bl (decide (i < j)))
  | _, _, _ => False
def wLe : Tv -> Tv -> (Tv -> Prop) -> Prop
  | .int i, .int j, k => k (.bl (decide (i <= j)))
  | _, _, _ => False
def wGt : Tv -> Tv -> (Tv -> Prop) -> Prop
  | .int i, .int j, k => k (.bl (decide (j < i)))
  | _, _, _ => False
def wGe : Tv -> Tv -> (Tv -> Prop) -> Prop
  | .int i, .int j, k => k (.bl (decide (j <= i)))
  | _, _, _ => False
theorem o_lt : OpR X (compareOp .Lt) (rV K wLt) := op_lt.imp fun x y H Q ⟨p, a, b, P, u, ra, rb, w, k⟩ => by
  match a, b, w with
  | .int i, .int j, w => exact ⟨i, j, rep_int.mp ra, rep_int.mp rb, keep0 u w k (rep_bl.mpr rfl)⟩
theorem o_le : OpR X (compareOp .LtE) (rV K wLe) := op_le.imp fun x y H Q ⟨p, a, b, P, u, ra, rb, w, k⟩ => by
  match a, b, w with
  | .int i, .int j, w => exact ⟨i, j, rep_int.mp ra, rep_int.mp rb, keep0 u w k (rep_bl.mpr rfl)⟩
theorem o_gt : OpR X (compareOp .Gt) (rV K wGt) := op_gt.imp fun x y H Q ⟨p, a, b, P, u, ra, rb, w, k⟩ => by
  match a, b, w with
  | .int i, .int j, w => exact ⟨i, j, rep_int.mp ra, rep_int.mp rb, keep0 u w k (rep_bl.mpr rfl)⟩
theorem o_ge : OpR X (compareOp .GtE) (rV K wGe) := op_ge.imp fun x y H Q ⟨p, a, b, P, u, ra, rb, w, k⟩ => by
  match a, b, w with
  | .int i, .int j, w => exact ⟨i, j, rep_int.mp ra, rep_int.mp rb, keep0 u w k (rep_bl.mpr rfl)⟩
def isNon : Tv -> Bool
  | .non => true
  | _ => false
theorem rep_isNon {G : Hp} {t : Tv} {v : V} (r : Rep K G t v) : decide (v = .non) = isNon t := by
  cases t with
  | non => rw [rep_non.mp r]; rfl
  | bl b => rw [rep_bl.mp r]; rfl
  | int b => rw [rep_int.mp r]; rfl
  | str b => rw [rep_str.mp r]; rfl
  | ty b => rw [rep_ty.mp r]; rfl
  | cls b => rw [rep_cls.mp r]; rfl
  | tup l => obtain ⟨a, xs, rfl, _⟩ := rep_tupS r; rfl
  | lst l => obtain ⟨a, xs, rfl, _⟩ := rep_lst.mp r; rfl
  | scr l => obtain ⟨a, xs, rfl, _⟩ := rep_scr.mp r; rfl
  | obj C fs l => unfold Rep at r; obtain ⟨a, dx, xs, rfl, _⟩ := r; rfl
  | dic ks l => obtain ⟨a, xs, rfl, _⟩ := rep_dic.mp r; rfl
def wIs : Tv -> Tv -> (Tv -> Prop) -> Prop
  | x, .non, k => k (.bl (isNon x))
  | .bl a, .bl b, k => k (.bl (a == b))
  | _, _, _ => False
def wIsN : Tv -> Tv -> (Tv -> Prop) -> Prop
  | x, .non, k => k (.bl (!isNon x))
  | .bl a, .bl b, k => k (.bl (a != b))
  | _, _, _ => False
theorem o_is : OpR X (compareOp .Is) (rV K wIs) := (op_isN.or op_isB).imp fun x y H Q ⟨p, a, b, P, u, ra, rb, w, k⟩ => by
  cases b with
  | non => exact .inl ⟨rep_non.mp rb, keep0 u (show P (.bl (isNon a)) by cases a <;> exact w) k (rep_bl.mpr (by rw [rep_isNon ra]))⟩
  | bl b =>
    cases a with
    | bl a => exact .inr ⟨a, b, rep_bl.mp ra, rep_bl.mp rb, keep0 u (show P (.bl (a == b)) from w) k (rep_bl.mpr rfl)⟩
    | _ => exact w.elim
  | _ => cases a <;> exact w.elim
theorem o_isN : OpR X (compareOp .IsNot) (rV K wIsN) := (op_notN.or op_isnotB).imp fun x y H Q ⟨p, a, b, P, u, ra, rb, w, k⟩ => by
  cases b with
  | non => exact .inl ⟨rep_non.mp rb, keep0 u (show P (.bl (!isNon a)) by cases a <;> exact w) k (rep_bl.mpr (by rw [rep_isNon ra]))⟩
  | bl b =>
    cases a with
    | bl a => exact .inr ⟨a, b, rep_bl.mp ra, rep_bl.mp rb, keep0 u (show P (.bl (a != b)) from w) k (rep_bl.mpr rfl)⟩
    | _ => exact w.elim
  | _ => cases a <;> exact w.elim
def flatT : Tv -> Bool
  | .non => true
  | .bl _ => true
  | .int _ => true
  | .str _ => true
  | _ => false
def eqF : Tv -> Tv -> Bool
  | .non, .non => true
  | .bl a, .bl b => a == b
  | .bl a, .int b => (if a then 1 else 0) == b
  | .int a, .bl b => a == (if b then 1 else 0)
  | .int a, .int b => a == b
  | .str a, .str b => a == b
  | _, _ => false
def eqFs : List Tv -> List Tv -> Bool
  | [], [] => true
  | a :: l, b :: m => eqF a b && eqFs l m
  | _, _ => false
theorem flat_of {G : Hp} {t : Tv} {v : V} (f : flatT t = true) (r : Rep K G t v) : flatV v = true := by
  cases t with
  | non => rw [rep_non.mp r]; rfl
  | bl b => rw [rep_bl.mp r]; rfl
  | int b => rw [rep_int.mp r]; rfl
  | str b => rw [rep_str.mp r]; rfl
  | _ => cases f
theorem eqF_of {G : Hp} {s t : Tv} {u v : V} (fs : flatT s = true) (ft : flatT t = true) (r : Rep K G s u) (q : Rep K G t v) : eqV u v = eqF s t := by
  cases s with
  | non =>
    rw [rep_non.mp r]
    cases t with
    | non => rw [rep_non.mp q]; rfl
    | bl b => rw [rep_bl.mp q]; rfl
    | int b => rw [rep_int.mp q]; rfl
    | str b => rw [rep_str.mp q]; rfl
    | _ => cases ft
  | bl a =>
    rw [rep_bl.mp r]
    cases t with
    | non => rw [rep_non.mp q]; rfl
    | bl b => rw [rep_bl.mp q]; rfl
    | int b => rw [rep_int.mp q]; rfl
    | str b => rw [rep_str.mp q]; rfl
    | _ => cases ft
  | int a =>
    rw [rep_int.mp r]
    cases t with
    | non => rw [rep_non.mp q]; rfl
    | bl b => rw [rep_bl.mp q]; rfl
    | int b => rw [rep_int.mp q]; rfl
    | str b => rw [rep_str.mp q]; rfl
    | _ => cases ft
  | str a =>
    rw [rep_str.mp r]
    cases t with
    | non => rw [rep_non.mp q]; rfl
    | bl b => rw [rep_bl.mp q]; rfl
    | int b => rw [rep_int.mp q]; rfl
    | str b => rw [rep_str.mp q]; rfl
    | _ => cases ft
  | _ => cases fs
theorem flats_of {G : Hp} : ∀ {l : List Tv} {xs : List V}, l.all flatT = true -> RepL K G l xs -> xs.all flatV = true
  | [], xs, _, r => by rw [repL_nil.mp r]; rfl
  | t :: l, xs, f, r => by
    obtain ⟨v, q, rfl, a, b⟩ := repL_cons.mp r
    rw [List.all_cons, Bool.and_eq_true] at f
    rw [List.all_cons, flat_of f.1 a, flats_of f.2 b]; rfl
theorem eqFs_of {G : Hp} : ∀ {l m : List Tv} {xs ys : List V}, l.all flatT = true -> m.all flatT = true -> RepL K G l xs -> RepL K G m ys -> eqVs xs ys = eqFs l m
  | [], [], xs, ys, _, _, r, q => by rw [repL_nil.mp r, repL_nil.mp q]; rfl
  | [], t :: m, xs, ys, _, _, r, q => by
    obtain ⟨v, q, rfl, a, b⟩ := repL_cons.mp q
    rw [repL_nil.mp r]; rfl
  | t :: l, [], xs, ys, _, _, r, q => by
    obtain ⟨v, r, rfl, a, b⟩ := repL_cons.mp r
    rw [repL_nil.mp q]; rfl
  | t :: l, s :: m, xs, ys, f, g, r, q => by
    obtain ⟨v, r', rfl, a, b⟩ := repL_cons.mp r
    obtain ⟨w, q', rfl, c, d⟩ := repL_cons.mp q
    rw [List.all_cons, Bool.and_eq_true] at f g
    show (eqV v w && eqVs r' q') = (eqF t s && eqFs l m)
    rw [eqF_of f.1 g.1 a c, eqFs_of f.2 g.2 b d]
mutual
def hgt : Nat -> Tv -> Bool
  | _, .non => true
  | _, .bl _ => true
  | _, .int _ => true
  | _, .str _ => true
  | n + 1, .tup l => hgtL n l
  | n + 1, .lst l => hgtL n l
  | _, _ => false
def hgtL : Nat -> List Tv -> Bool
  | _, [] => true
  | n, t :: l => hgt n t && hgtL n l
end
mutual
theorem alike_of {G : Hp} : ∀ (n : Nat) (t : Tv) (u v : V), hgt n t = true -> Rep K G t u -> Rep K G t v -> Alike K G n u v
  | n, .non, u, v, h, r, q => by rw [rep_non.mp r, rep_non.mp q]; exact Alike.flat rfl rfl rfl
  | n, .bl b, u, v, h, r, q => by rw [rep_bl.mp r, rep_bl.mp q]; exact Alike.flat rfl rfl (beq_self_eq_true b)
  | n, .int b, u, v, h, r, q => by rw [rep_int.mp r, rep_int.mp q]; exact Alike.int b
  | n, .str b, u, v, h, r, q => by rw [rep_str.mp r, rep_str.mp q]; exact Alike.str b
  | n, .ty _, u, v, h, r, q => by cases n <;> (unfold hgt at h; cases h)
  | n, .cls _, u, v, h, r, q => by cases n <;> (unfold hgt at h; cases h)
  | n, .scr _, u, v, h, r, q => by cases n <;> (unfold hgt at h; cases h)
  | n, .obj _ _ _, u, v, h, r, q => by cases n <;> (unfold hgt at h; cases h)
  | n, .dic _ _, u, v, h, r, q => by cases n <;> (unfold hgt at h; cases h)
  | 0, .tup l, u, v, h, r, q => by unfold hgt at h; cases h
  | 0, .lst l, u, v, h, r, q => by unfold hgt at h; cases h
  | n + 1, .tup l, u, v, h, r, q => by
    unfold hgt at h
    obtain ⟨a, xs, rfl, s1, q1⟩ := rep_tupS r
    obtain ⟨b, ys, rfl, s2, q2⟩ := rep_tupS q
    exact Alike.tup s1 s2 (alikes_of n l xs ys h q1 q2)
  | n + 1, .lst l, u, v, h, r, q => by
    unfold hgt at h
    obtain ⟨a, xs, rfl, s1, q1⟩ := rep_lst.mp r
    obtain ⟨b, ys, rfl, s2, q2⟩ := rep_lst.mp q
    exact Alike.lst (SqL.of s1) (SqL.of s2) (alikes_of n l xs ys h q1 q2)
theorem alikes_of {G : Hp} : ∀ (n : Nat) (l : List Tv) (xs ys : List V), hgtL n l = true -> RepL K G l xs -> RepL K G l ys -> Paired (Alike K G n) xs ys
  | n, [], xs, ys, h, r, q => by rw [repL_nil.mp r, repL_nil.mp q]; exact .nil
  | n, t :: l, xs, ys, h, r, q => by
    unfold hgtL at h
    rw [Bool.and_eq_true] at h
    obtain ⟨v, r', rfl, a, b⟩ := repL_cons.mp r
    obtain ⟨w, q', rfl, c, d⟩ := repL_cons.mp q
    exact .cons (alike_of n t v w h.1 a c) (alikes_of n l r' q' h.2 b d)
end
def wEq : Tv -> Tv -> (Tv -> Prop) -> Prop
  | .int i, .int j, k => k (.bl (decide (i = j)))
  | .str i, .str j, k => k (.bl (decide (i = j)))
  | .bl i, .bl j, k => k (.bl (decide (i = j)))
  | .tup a, .tup b, k => (a.all flatT = true /\ b.all flatT = true /\ k (.bl (eqFs a b))) ∨ (a = b /\ hgtL 40 a = true /\ k (.bl true)) ∨ (b = [] /\ k (.bl a.isEmpty))
  | .lst a, .lst b, k => (a.all flatT = true /\ b.all flatT = true /\ k (.bl (eqFs a b))) ∨ (a = b /\ hgtL 40 a = true /\ k (.bl true)) ∨ (b = [] /\ k (.bl a.isEmpty))
  | _, _, _ => False
def wNe : Tv -> Tv -> (Tv -> Prop) -> Prop
  | .int i, .int j, k => k (.bl (!decide (i = j)))
  | .str i, .str j, k => k (.bl (!decide (i = j)))
  | .bl i, .bl j, k => k (.bl (!decide (i = j)))
  | .tup a, .tup b, k => (a.all flatT = true /\ b.all flatT = true /\ k (.bl (!eqFs a b))) ∨ (a = b /\ hgtL 40 a = true /\ k (.bl false)) ∨ (b = [] /\ k (.bl (!a.isEmpty)))
  | .lst a, .lst b, k => (a.all flatT = true /\ b.all flatT = true /\ k (.bl (!eqFs a b))) ∨ (a = b /\ hgtL 40 a = true /\ k (.bl false)) ∨ (b = [] /\ k (.bl (!a.isEmpty)))
  | _, _, _ => False
theorem dec_intV {i j : Int} : decide (V.int i = V.int j) = decide (i = j) := by rw [Bool.eq_iff_iff]; simp
theorem dec_strV {i j : Str} : decide (V.str i = V.str j) = decide (i = j) := by rw [Bool.eq_iff_iff]; simp
theorem dec_blV {i j : Bool} : decide (V.bl i = V.bl j) = decide (i = j) := by rw [Bool.eq_iff_iff]; simp
theorem op_neL0 {X : Cx} {K : PySem.W.Frag} (hK : X.K = K) (hu : X.A.units < cLine) : OpR X (compareOp .NotEq) (fun x y H Q => ∃ p q xs, x = .ref p /\ y = .ref q /\ SqL K H p xs /\ SqL K H q [] /\ Q (.bl (!xs.isEmpty)) H) := by
  subst hK
  intro pins s σ H x y v u Q I rx ry h
  obtain ⟨p, q, xs, rfl, rfl, hx, hy, hq⟩ := h
  cases rx
  cases ry
  obtain ⟨its, r, pl, hz⟩ := I.list hx
  obtain ⟨its2, r2, pl2, hz2⟩ := I.list hy
  cases r2
  cases r with
  | nil =>
    refine SeqAt.RcNeAt.lists (e := fun _ => true) pl.isList pl2.isList rfl hu (fun j h1 h2 => absurd h2 (Nat.not_lt_zero j)) _ _ _ _ ?_
    exact ⟨.bl false, H, I, rfl, hq⟩
  | cons a b =>
    refine SeqAt.RcNeAt.lists_lengths pl.isList pl2.isList rfl hu _ _ _ _ ?_
    exact ⟨.bl true, H, I, rfl, hq⟩
theorem o_eq (hK : X.K = K) (hu : X.A.units + 64 < cLine) : OpR X (compareOp .Eq) (rV K wEq) := by
  have h0 : X.A.units < cLine := by omega
  have hT : OpR X (compareOp .Eq) (fun x y H Q => ∃ p q xs ys, x = .ref p /\ y = .ref q /\ SqT K H p xs /\ SqT K H q ys /\ xs.all flatV = true /\ ys.all flatV = true /\ Q (.bl (eqVs xs ys)) H) := by subst hK; exact op_eqTF h0
  refine (op_eq.or (hT.or ((op_eqLF hK h0).or ((op_eqA hK hu).or ((op_eqT0 hK h0).or (op_eqL0 hK h0)))))).imp fun x y H Q ⟨p, a, b, P, u, ra, rb, w, k⟩ => ?_
  have up := fun {t : Tv} {v : V} (r : Rep K (p 0) t v) => r
  match a, b, w with
  | .int i, .int j, w => rw [rep_int.mp ra, rep_int.mp rb]; exact .inl ⟨rfl, keep0 u w k (rep_bl.mpr (by rw [dec_intV]))⟩
  | .str i, .str j, w => rw [rep_str.mp ra, rep_str.mp rb]; exact .inl ⟨rfl, keep0 u w k (rep_bl.mpr (by rw [dec_strV]))⟩
  | .bl i, .bl j, w => rw [rep_bl.mp ra, rep_bl.mp rb]; exact .inl ⟨rfl, keep0 u w k (rep_bl.mpr (by rw [dec_blV]))⟩
  | .tup l, .tup m, w =>
    obtain ⟨c, xs, rfl, s1, q1⟩ := rep_tupS ra
    obtain ⟨d, ys, rfl, s2, q2⟩ := rep_tupS rb
    rcases w with ⟨f, g, w⟩ | ⟨rfl, hh, w⟩ | ⟨rfl, w⟩
    · exact .inr (.inl ⟨c, d, xs, ys, rfl, rfl, (u.sub 0).seqT s1, (u.sub 0).seqT s2, flats_of f q1, flats_of g q2, keep0 u w k (rep_bl.mpr (by rw [eqFs_of f g q1 q2]))⟩)
    · exact .inr (.inr (.inr (.inl ⟨c, d, xs, ys, rfl, rfl, .inl ⟨(u.sub 0).seqT s1, (u.sub 0).seqT s2⟩, alikes_of 40 l xs ys hh (q1.up (u.sub 0)) (q2.up (u.sub 0)), keep0 u w k (rep_bl.mpr rfl)⟩)))
    · rw [repL_nil.mp q2] at s2
      exact .inr (.inr (.inr (.inr (.inl ⟨c, d, xs, rfl, rfl, (u.sub 0).seqT s1, (u.sub 0).seqT s2, keep0 u w k (rep_bl.mpr (by rw [q1.emp]))⟩))))
  | .lst l, .lst m, w =>
    obtain ⟨c, xs, rfl, s1, q1⟩ := rep_lst.mp ra
    obtain ⟨d, ys, rfl, s2, q2⟩ := rep_lst.mp rb
    have t1 : SqL K H c xs := SqL.of (u.sub 0 _ _ s1)
    have t2 : SqL K H d ys := SqL.of (u.sub 0 _ _ s2)
    rcases w with ⟨f, g, w⟩ | ⟨rfl, hh, w⟩ | ⟨rfl, w⟩
    · exact .inr (.inr (.inl ⟨c, d, xs, ys, rfl, rfl, t1, t2, flats_of f q1, flats_of g q2, keep0 u w k (rep_bl.mpr (by rw [eqFs_of f g q1 q2]; rfl))⟩))
    · exact .inr (.inr (.inr (.inl ⟨c, d, xs, ys, rfl, rfl, .inr ⟨t1, t2⟩, alikes_of 40 l xs ys hh (q1.up (u.sub 0)) (q2.up (u.sub 0)), keep0 u w k (rep_bl.mpr rfl)⟩)))
    · rw [repL_nil.mp q2] at t2
      exact .inr (.inr (.inr (.inr (.inr ⟨c, d, xs, rfl, rfl, t1, t2, keep0 u w k (rep_bl.mpr (by rw [q1.emp]))⟩))))
theorem o_ne (hK : X.K = K) (hu : X.A.units + 64 < cLine) : OpR X (compareOp .NotEq) (rV K wNe) := by
  have h0 : X.A.units < cLine := by omega
  refine (op_ne.or ((op_neTF hK h0).or ((op_neLF hK h0).or ((op_neA hK hu).or ((op_neT0 hK h0).or (op_neL0 hK h0)))))).imp fun x y H Q ⟨p, a, b, P, u, ra, rb, w, k⟩ => ?_
  match a, b, w with
  | .int i, .int j, w => rw [rep_int.mp ra, rep_int.mp rb]; exact .inl ⟨rfl, keep0 u w k (rep_bl.mpr (by rw [dec_intV]))⟩
  | .str i, .str j, w => rw [rep_str.mp ra, rep_str.mp rb]; exact .inl ⟨rfl, keep0 u w k (rep_bl.mpr (by rw [dec_strV]))⟩
  | .bl i, .bl j, w => rw [rep_bl.mp ra, rep_bl.mp rb]; exact .inl ⟨rfl, keep0 u w k (rep_bl.mpr (by rw [dec_blV]))⟩
  | .tup l, .tup m, w =>
    obtain ⟨c, xs, rfl, s1, q1⟩ := rep_tupS ra
    obtain ⟨d, ys, rfl, s2, q2⟩ := rep_tupS rb
    rcases w with ⟨f, g, w⟩ | ⟨rfl, hh, w⟩ | ⟨rfl, w⟩
    · exact .inr (.inl ⟨c, d, xs, ys, rfl, rfl, (u.sub 0).seqT s1, (u.sub 0).seqT s2, flats_of f q1, flats_of g q2, keep0 u w k (rep_bl.mpr (by rw [eqFs_of f g q1 q2]))⟩)
    · exact .inr (.inr (.inr (.inl ⟨c, d, xs, ys, rfl, rfl, .inl ⟨(u.sub 0).seqT s1, (u.sub 0).seqT s2⟩, alikes_of 40 l xs ys hh (q1.up (u.sub 0)) (q2.up (u.sub 0)), keep0 u w k (rep_bl.mpr rfl)⟩)))
    · rw [repL_nil.mp q2] at s2
      exact .inr (.inr (.inr (.inr (.inl ⟨c, d, xs, rfl, rfl, (u.sub 0).seqT s1, (u.sub 0).seqT s2, keep0 u w k (rep_bl.mpr (by rw [q1.emp]))⟩))))
  | .lst l, .lst m, w =>
    obtain ⟨c, xs, rfl, s1, q1⟩ := rep_lst.mp ra
    obtain ⟨d, ys, rfl, s2, q2⟩ := rep_lst.mp rb
    have t1 : SqL K H c xs := SqL.of (u.sub 0 _ _ s1)
    have t2 : SqL K H d ys := SqL.of (u.sub 0 _ _ s2)
    rcases w with ⟨f, g, w⟩ | ⟨rfl, hh, w⟩ | ⟨rfl, w⟩
    · exact .inr (.inr (.inl ⟨c, d, xs, ys, rfl, rfl, t1, t2, flats_of f q1, flats_of g q2, keep0 u w k (rep_bl.mpr (by rw [eqFs_of f g q1 q2]; rfl))⟩))
    · exact .inr (.inr (.inr (.inl ⟨c, d, xs, ys, rfl, rfl, .inr ⟨t1, t2⟩, alikes_of 40 l xs ys hh (q1.up (u.sub 0)) (q2.up (u.sub 0)), keep0 u w k (rep_bl.mpr rfl)⟩)))
    · rw [repL_nil.mp q2] at t2
      exact .inr (.inr (.inr (.inr (.inr ⟨c, d, xs, rfl, rfl, t1, t2, keep0 u w k (rep_bl.mpr (by rw [q1.emp]))⟩))))
def optK {α : Type} (o : Option α) (k : α -> Prop) : Prop := match o with | some t => k t | none => False
theorem optK_of {α : Type} {o : Option α} {k : α -> Prop} (h : optK o k) : ∃ t, o = some t /\ k t := by
  cases o with
  | none => exact h.elim
  | some t => exact ⟨t, rfl, h⟩
theorem optK_mk {α : Type} {o : Option α} {k : α -> Prop} {t : α} (e : o = some t) (h : k t) : optK o k := by subst e; exact h
def wIx : Tv -> Tv -> (Tv -> Prop) -> Prop
  | .tup l, .int i, k => optK (atI l i) k
  | .lst l, .int i, k => optK (atI l i) k
  | .scr l, .int i, k => optK (atI l i) k
  | .str z, .int i, k => z.length <= sizeLine /\ optK (atI z.cps.toList i) fun c => k (.str ⟨#[c]⟩)
  | _, _, _ => False
theorem o_ix (hK : X.K = K) : IxR X (rV K wIx) := by
  subst hK
  refine ix_seq.imp fun x y H Q ⟨p, a, b, P, u, ra, rb, w, k⟩ => ?_
  match a, b, w with
  | .tup l, .int i, w =>
    obtain ⟨c, xs, rfl, s1, q1⟩ := rep_tupS ra
    obtain ⟨t, e, w⟩ := optK_of w
    obtain ⟨v, hv, r⟩ := q1.at e
    exact .inr (.inl ⟨c, xs, i, v, rfl, rep_int.mp rb, (u.sub 0).seqT s1, hv, keep0 u w k r⟩)
  | .lst l, .int i, w =>
    obtain ⟨c, xs, rfl, s1, q1⟩ := rep_lst.mp ra
    obtain ⟨t, e, w⟩ := optK_of w
    obtain ⟨v, hv, r⟩ := q1.at e
    exact .inl ⟨c, xs, i, v, rfl, rep_int.mp rb, SqL.of (u.sub 0 _ _ s1), hv, keep0 u w k r⟩
  | .scr l, .int i, w =>
    obtain ⟨c, xs, rfl, s1, q1⟩ := rep_scr.mp ra
    obtain ⟨t, e, w⟩ := optK_of w
    obtain ⟨v, hv, r⟩ := q1.at e
    exact .inl ⟨c, xs, i, v, rfl, rep_int.mp rb, (u.sub 0).seq s1, hv, keep0 u w k r⟩
  | .str z, .int i, w =>
    obtain ⟨hz, w⟩ := w
    obtain ⟨c, e, w⟩ := optK_of w
    exact .inr (.inr ⟨z, i, c, rep_str.mp ra, rep_int.mp rb, hz, e, keep0 u w k (rep_str.mpr rfl)⟩)
end
end L2
set_option Elab.async false
set_option linter.all false
set_option maxRecDepth 100000
set_option maxHeartbeats 4000000
namespace L2
open PySem PySem.Spec PyProof.Rows
section
variable {X : Cx} {K : PySem.W.Frag}
theorem one_of {G : Hp} {t : Tv} {xs : List V} (r : RepL K G [t] xs) : ∃ v, xs = [v] /\ Rep K G t v := by
  obtain ⟨v, q, rfl, a, b⟩ := repL_cons.mp r
  rw [repL_nil.mp b]
  exact ⟨v, rfl, a⟩
theorem two_of {G : Hp} {s t : Tv} {xs : List V} (r : RepL K G [s, t] xs) : ∃ u v, xs = [u, v] /\ Rep K G s u /\ Rep K G t v := by
  obtain ⟨v, q, rfl, a, b⟩ := repL_cons.mp r
  obtain ⟨w, rfl, c⟩ := one_of b
  exact ⟨v, w, rfl, a, c⟩
def wLen : List Tv -> (Tv -> Prop) -> Prop
  | [.tup l], k => k (.int l.length)
  | [.lst l], k => k (.int l.length)
  | [.scr l], k => k (.int l.length)
  | [.str z], k => z.length <= sizeLine /\ k (.int z.length)
  | _, _ => False
theorem f_len (hK : X.K = K) : CallR X (.builtin "len") (rVs K wLen) := by
  refine ((call_lenK hK).or call_len_str).imp fun xs H Q ⟨p, l, P, u, r, w, k⟩ => ?_
  match l, w with
  | [.tup l], w =>
    obtain ⟨v, rfl, rr⟩ := one_of r
    obtain ⟨c, ys, rfl, s1, q1⟩ := rep_tupS rr
    exact .inl ⟨c, ys, rfl, .inr ((u.sub 0).seqT s1), keep0 u w k (rep_int.mpr (by rw [q1.len]))⟩
  | [.lst l], w =>
    obtain ⟨v, rfl, rr⟩ := one_of r
    obtain ⟨c, ys, rfl, s1, q1⟩ := rep_lst.mp rr
    exact .inl ⟨c, ys, rfl, .inl (SqL.of (u.sub 0 _ _ s1)), keep0 u w k (rep_int.mpr (by rw [q1.len]))⟩
  | [.scr l], w =>
    obtain ⟨v, rfl, rr⟩ := one_of r
    obtain ⟨c, ys, rfl, s1, q1⟩ := rep_scr.mp rr
    exact .inl ⟨c, ys, rfl, .inl ((u.sub 0).seq s1), keep0 u w k (rep_int.mpr (by rw [q1.len]))⟩
  | [.str z], w =>
    obtain ⟨v, rfl, rr⟩ := one_of r
    rw [rep_str.mp rr]
    exact .inr ⟨z, rfl, w.1, keep0 u w.2 k (rep_int.mpr rfl)⟩
def absI (i : Int) : Int := if i < 0 then -i else i
def wAbs : List Tv -> (Tv -> Prop) -> Prop
  | [.int i], k => k (.int (absI i))
  | _, _ => False
theorem f_abs : CallR X (.builtin "abs") (rVs K wAbs) := call_abs.imp fun xs H Q ⟨p, l, P, u, r, w, k⟩ => by
  match l, w with
  | [.int i], w =>
    obtain ⟨v, rfl, rr⟩ := one_of r
    rw [rep_int.mp rr]
    exact ⟨i, rfl, keep0 u w k (rep_int.mpr rfl)⟩
def b2I (b : Bool) : Int := if b then 1 else 0
def wInt : List Tv -> (Tv -> Prop) -> Prop
  | [.int i], k => k (.int i)
  | [.bl b], k => k (.int (b2I b))
  | _, _ => False
theorem f_int : CallR X (.type "int") (rVs K wInt) := call_int1.imp fun xs H Q ⟨p, l, P, u, r, w, k⟩ => by
  match l, w with
  | [.int i], w =>
    obtain ⟨v, rfl, rr⟩ := one_of r
    rw [rep_int.mp rr]
    exact .inl ⟨i, rfl, keep0 u w k (rep_int.mpr rfl)⟩
  | [.bl b], w =>
    obtain ⟨v, rfl, rr⟩ := one_of r
    rw [rep_bl.mp rr]
    exact .inr ⟨b, rfl, keep0 u w k (rep_int.mpr rfl)⟩
def wTuple : List Tv -> (Tv -> Prop) -> Prop
  | [.tup l], k => k (.tup l)
  | [.lst l], k => k (.tup l)
  | _, _ => False
theorem f_tuple (hK : X.K = K) : CallR X (.type "tuple") (rVs K wTuple) := by
  subst hK
  refine call_tuple_of.imp fun xs H Q ⟨p, l, P, u, r, w, k⟩ => ?_
  match l, w with
  | [.tup l], w =>
    obtain ⟨v, rfl, rr⟩ := one_of r
    obtain ⟨c, ys, rfl, s1, q1⟩ := rep_tupS rr
    exact ⟨c, ys, rfl, .inr ⟨(u.sub 0).seqT s1, keep0 u w k rr⟩⟩
  | [.lst l], w =>
    obtain ⟨v, rfl, rr⟩ := one_of r
    obtain ⟨c, ys, rfl, s1, q1⟩ := rep_lst.mp rr
    exact ⟨c, ys, rfl, .inl ⟨SqL.of (u.sub 0 _ _ s1), fun a n => laid0 u w k n fun s0 => rep_tup.mpr ⟨a, _, rfl, SqN.of upd_same, q1.up s0⟩⟩⟩
def allB : List Tv -> Option Bool
  | [] => some true
  | .bl b :: l => (allB l).map (b && ·)
  | _ => none
def wAll : List Tv -> (Tv -> Prop) -> Prop
  | [.lst l], k => optK (allB l) fun b => k (.bl b)
  | _, _ => False
theorem allB_of {G : Hp} : ∀ {l : List Tv} {xs : List V} {b : Bool}, RepL K G l xs -> allB l = some b -> ∃ bs : List Bool, xs = bs.map V.bl /\ bs.all id = b
  | [], xs, b, r, e => by cases e; rw [repL_nil.mp r]; exact ⟨[], rfl, rfl⟩
  | t :: l, xs, b, r, e => by
    obtain ⟨v, q, rfl, a, c⟩ := repL_cons.mp r
    cases t with
    | bl d =>
      obtain ⟨b', e', rfl⟩ := Option.map_eq_some_iff.mp (show (allB l).map (d && ·) = some b from e)
      obtain ⟨bs, rfl, rfl⟩ := allB_of c e'
      rw [rep_bl.mp a]
      exact ⟨d :: bs, rfl, rfl⟩
    | _ => cases e
theorem f_all (hK : X.K = K) (hc : X.calm = true) : CallR X (.builtin "all") (rVs K wAll) := by
  subst hK
  refine (call_all hc).imp fun xs H Q ⟨p, l, P, u, r, w, k⟩ => ?_
  match l, w with
  | [.lst l], w =>
    obtain ⟨v, rfl, rr⟩ := one_of r
    obtain ⟨c, ys, rfl, s1, q1⟩ := rep_lst.mp rr
    obtain ⟨b, e, w⟩ := optK_of w
    obtain ⟨bs, rfl, eb⟩ := allB_of q1 e
    exact ⟨c, bs, rfl, SqL.of (u.sub 0 _ _ s1), keep0 u w k (rep_bl.mpr (by rw [eb]))⟩
def kindT : Tv -> Option String
  | .non => some "NoneType"
  | .bl _ => some "bool"
  | .int _ => some "int"
  | .str _ => some "str"
  | .tup _ => some "tuple"
  | .lst _ => some "list"
  | _ => none
def isT (k T : String) : Bool := k == T || (k == "bool" && T == "int") || T == "object"
def wIsi : List Tv -> (Tv -> Prop) -> Prop
  | [x, .ty T], k => optK (kindT x) fun n => bif ["int", "bool", "str", "tuple", "list"].contains T then k (.bl (isT n T)) else False
  | _, _ => False
end
end L2
set_option Elab.async false
set_option linter.all false
set_option maxRecDepth 100000
set_option maxHeartbeats 4000000
namespace L2
open PySem PySem.Spec PyProof.Rows
section
variable {X : Cx} {K : PySem.W.Frag} {E : St -> XK}
theorem pg_tupK {es : List Expr} {k n : Nat} {t : TGs} {pos : Pos} (hK : X.K = K) (hc : X.calm = true) (h : PGs X es t) (hn : (assignEach es X.env).length = n := by rfl) (hst : (assignEach es X.env).findIdx? (·.1) = none := by rfl) : PG X (.Tuple es k pos) (gTup K n t) := hK ▸ pg_tup hc h hn hst
def vIxO (i : Nat) (k : Mv Tv) : Mv Tv := fun ρ P => match ρ[i]? with
  | some (.ow _ _) => vBind k (fun x ρ P => match x, ρ[i]? with | .int n, some (.ow _ l) => (match atI l n with | some t => P (.ok t) ρ | none => False) | _, _ => False) ρ P
  | _ => False
theorem v_ixO {i : Nat} {x : Str} {k : Expr} {m : Mv Tv} {xp pos : Pos} (hK : X.K = K) (hN : X.N[i]? = some x) (hv : Vis X.env.scope x) (hk : PE X k (tV K E m)) (hs : PlainIx k) (hd : (x == ("__debug__" : Str)) = false := by decide) (hcd : (x == ("__classdict__" : Str)) = false := by decide) : PE X (.Subscript (.Name x xp) k pos) (tV K E (vIxO i m)) := by
  refine (pe_ix (ix_listK hK) (pe_var hN hv hd hcd) hk hs).imp fun σ H Q ⟨p, ρ, er, P, a, b, c⟩ => ?_
  unfold vIxO at a
  split at a
  · rename_i Da l e
    obtain ⟨xs, e1, e2, e3, r⟩ := er.own e
    have h : tA K E (Rep K) (vBind m (fun x ρ P => match x, ρ[i]? with | .int n, some (.ow _ l) => (match atI l n with | some t => P (.ok t) ρ | none => False) | _, _ => False)) p ρ σ Q := ⟨P, a, b, c⟩
    refine ⟨.ref Da, e1, p, ρ, er, h.bind.mono fun v H1 ⟨y, p1, ρ1, g1, er1, r1, P1, a1, b1, _⟩ => ?_⟩
    dsimp only at a1
    split at a1
    · rename_i n Db l' e'
      obtain ⟨ys, f1, f2, f3, rr⟩ := er1.own e'
      rw [e1] at f1
      cases f1
      split at a1
      · rename_i t ht
        obtain ⟨w, hw, rw'⟩ := rr.at ht
        exact ⟨Da, ys, n, w, rfl, rep_int.mp r1, SqL.of f2, hw, b1 t ρ1 a1 w p1 H1 .refl er1 rw'⟩
      · exact a1.elim
    · exact a1.elim
  · exact a.elim
def vNewC (i nt : Nat) (js : List Nat) (it : Mv (List Tv)) (g : Gv) (c : Mv Bool) (e : Mv Tv) : Sv :=
  vDo it fun xs ρ P => xs.length < sizeLine /\ compW g c e (capt nt js ρ) xs [] fun ys => ∀ D, P .nx (ρ.set i (.ow D ys))
theorem vs_newC {i0 : Nat} {xn : Str} {pos' spos : Pos} {elt tg iter : Expr} {ifs : List Expr} {scope : Scope} {pos : Pos} {ts : List Str} {fs : List (Str × Nat)} {g : TG} {nt : Nat} {it : Mv (List Tv)} {f : Gv} {c : Mv Bool} {e : Mv Tv}
    (hN0 : X.N.Nodup) (hi0 : X.N[i0]? = some xn) (hx0 : X.env.scope.names.lookup xn = some .local)
    (hc : X.calm = true) (hF : Frees X scope (ts ++ fs.map (·.1)) (fun σ => ts.map (fun _ => none) ++ fs.map fun p => (σ[p.2]?).join)) (hvis : ∀ y ∈ scope.names, y.2 = .free -> X.env.kindOf y.1 = some .cell ∨ X.env.kindOf y.1 = some .free)
    (hcell : ∀ y ∈ scope.names, y.2 ≠ .cell) (hkind : scope.kind = .function) (hnames : ∀ y ∈ scope.names, y.2 = .local -> scope.names.lookup y.1 = some .local) (hfl : ∀ y, scope.names.lookup y = some .free -> (y, NameKind.free) ∈ scope.names)
    (hn : ts.length = nt) (hg : TgOk K g f) (hk : keepsV f nt) (ho : noOw f)
    (hi : PI X tg iter (iV K E it)) (hpg : ∀ cl C s H fp pins, PG (cxComp X (ts ++ fs.map (·.1)) scope cl C s H fp pins) tg g) (ht : ∀ cl C s H fp pins, PIf (cxComp X (ts ++ fs.map (·.1)) scope cl C s H fp pins) ifs (tVt K (fun _ => E0) c)) (he : ∀ cl C s H fp pins, PE (cxComp X (ts ++ fs.map (·.1)) scope cl C s H fp pins) elt (tV K (fun _ => E0) e))
    (hs : ∀ x, foldedSetIterable iter X.env x = pure x := by intro _; rfl) (hsw : swapsWith (.ListComp elt [⟨tg, iter, ifs, 0⟩] scope pos) (some (.Name xn pos')) spos.line X.env = pure true := by rfl) :
    PS X (.Assign [.Name xn pos'] (.ListComp elt [⟨tg, iter, ifs, 0⟩] scope pos) spos) (tS K E (vNewC i0 nt (fs.map (·.2)) it f c e)) := fun pins s σ H D I ⟨p, ρ, P, er, a, h⟩ => by
  subst hn
  refine ps_setc hN0 hi0 hx0 hc hF hvis hcell hkind hnames hfl hi hpg ht he hs hsw pins s σ H D I ?_
  refine ⟨p, ρ, er, _, a, fun l ρ1 q J p1 H1 g1 er1 hj Da hD => ?_, fun c0 ρ1 q p1 H1 g1 er1 => h.er c0 ρ1 q σ p1 H1 g1 er1⟩
  refine comp_core hg hk ho er1 hj hD q.1 q.2 fun acc ys G' H' w ra s0 u eH => ?_
  have e1 := er1.grow s0 u
  have hl : i0 < ρ1.length := by
    have h0 : i0 < X.N.length := (List.getElem?_eq_some_iff.mp hi0).1
    rw [← er1.len, I.len]; exact h0
  obtain ⟨e2, g2⟩ := e1.setNew (D := Da) hl hid_at (l := acc) (xs := ys) (by rw [pset_at]; exact ra)
  rw [← eH] at e2
  exact h.nx _ (w Da) _ _ H' (g1.trans ((grow0 s0).trans g2)) e2
def cutT (l : List Tv) (lo hi : Option Int) : List Tv := (l.drop (HT.sIx l.length 0 lo)).take (HT.sIx l.length l.length hi - HT.sIx l.length 0 lo)
theorem RepL.cut {G : Hp} {l : List Tv} {xs : List V} (h : RepL K G l xs) (lo hi : Option Int) : RepL K G (cutT l lo hi) (cutV xs lo hi) := by
  unfold cutT cutV
  rw [h.len]
  exact (h.drop _).take _
def wSl (t : Tv) (lo hi : Option Int) (k : Tv -> Prop) : Prop := match t with
  | .tup l => ¬ (HT.sIx l.length 0 lo = 0 /\ HT.sIx l.length l.length hi = l.length) /\ k (.tup (cutT l lo hi))
  | .lst l => k (.lst (cutT l lo hi))
  | .str z => z.length <= sizeLine /\ k (.str (Txt.slice z lo hi))
  | _ => False
def rVl (K : PySem.W.Frag) : V -> Option Int -> Option Int -> Hp -> VK -> Prop := fun x lo hi H Q => ∃ p a P, Uni H p /\ Rep K (p 0) a x /\ wSl a lo hi P /\ ∀ t, P t -> ∀ v G' H', Same (p 0) G' -> Uni H' (pset p 0 G') -> Rep K G' t v -> Q v H'
theorem SlR.imp {r r' : V -> Option Int -> Option Int -> Hp -> VK -> Prop} (h : SlR X r) (k : ∀ x lo hi H Q, r' x lo hi H Q -> r x lo hi H Q) : SlR X r' := fun pins s σ H x v vl vu lo hi sl Q I rx hs pl pu q => h pins s σ H x v vl vu lo hi sl Q I rx hs pl pu (k _ _ _ _ _ q)
theorem o_sl (hK : X.K = K) : SlR X (rVl K) := by
  subst hK
  refine (sl_tup.or (sl_list.or sl_str)).imp fun x lo hi H Q ⟨p, a, P, u, r, w, k⟩ => ?_
  cases a with
  | tup l =>
    obtain ⟨c, ys, rfl, s1, q1⟩ := rep_tupS r
    exact .inl ⟨c, ys, rfl, (u.sub 0).seqT s1, by rw [q1.len]; exact w.1, fun a n => laid0 u w.2 k n fun s0 => rep_tup.mpr ⟨a, _, rfl, SqN.of upd_same, (q1.cut lo hi).up s0⟩⟩
  | lst l =>
    obtain ⟨c, ys, rfl, s1, q1⟩ := rep_lst.mp r
    exact .inr (.inl ⟨c, ys, rfl, SqL.of (u.sub 0 _ _ s1), fun a n => laid0 u w k n fun s0 => rep_lst.mpr ⟨a, _, rfl, upd_same, (q1.cut lo hi).up s0⟩⟩)
  | str z => rw [rep_str.mp r]; exact .inr (.inr ⟨z, rfl, w.1, keep0 u w.2 k (rep_str.mpr rfl)⟩)
  | _ => exact w.elim
def vInt {α : Type} (x : Tv) (k : Int -> Mv α) : Mv α := match x with | .int i => k i | _ => fun _ _ => False
def vSlSN (a lo : Mv Tv) : Mv Tv := vBind a fun x => vBind lo fun l => vInt l fun i ρ P => wSl x (some i) none fun t => P (.ok t) ρ
theorem v_slSN {e lo : Expr} {m n : Mv Tv} {p2 pos : Pos} (hK : X.K = K) (he : PE X e (tV K E m)) (hl : PE X lo (tV K E n)) : PE X (.Subscript e (.Slice (some lo) none none p2) pos) (tV K E (vSlSN m n)) :=
  (pe_slice (o_sl hK) he (po_some hl) po_none).imp fun σ H Q ⟨p, ρ, er, h⟩ => ⟨p, ρ, er, h.bind.mono fun v H1 ⟨x, p1, ρ1, g1, er1, r1, h1⟩ => ⟨p1, ρ1, er1, h1.bind.mono fun u H2 ⟨y, p2, ρ2, g2, er2, r2, h2⟩ => by
    cases y with
    | int i =>
      obtain ⟨P, a, b⟩ := tail_W (W := wSl x (some i) none) er2 h2
      exact ⟨i, rep_int.mp r2, p2, x, P, er2.uni, r1.up g2.same, a, b⟩
    | _ => obtain ⟨_, z, _⟩ := h2; exact z.elim⟩⟩
end
section
variable {X : Cx} {K : PySem.W.Frag}
theorem kit_tab : ∀ k ∈ ["NoneType", "bool", "int", "str", "tuple", "list"], ∀ T ∈ ["int", "bool", "str", "tuple", "list"], PySem.W.kitOne K (.type k) (.type T) = some (isT k T) := by
  intro k hk T hT
  simp only [List.mem_cons, List.not_mem_nil, or_false] at hk hT
  rcases hk with rfl | rfl | rfl | rfl | rfl | rfl <;> rcases hT with rfl | rfl | rfl | rfl | rfl <;> rfl
theorem kind_mem {x : Tv} {n : String} (h : kindT x = some n) : n ∈ ["NoneType", "bool", "int", "str", "tuple", "list"] := by
  cases x <;> first | (cases h; decide) | cases h
theorem isi_ok {pins : List (Addr × Obj)} {σ : St} {H : Hp} {s : Shared} {p : Pts} {x : Tv} {n : String} {v : V} {u : Value} {c : Value} {b : Bool} {A : Around} {Q : Value -> Shared -> Prop} {E : Value -> Shared -> Prop} (I : Inv X pins σ H s) (un : Uni H p) (r : Rep X.K (p 0) x v) (rx : RelV v u) (hn : kindT x = some n) (e : PySem.W.kitOne X.K (.type n) c = some b) (h : ∀ tk, Q (.bool b) { s with toks := tk }) :
    wpAny (model X.prog X.w) A (call (.builtin "isinstance") [u, c]) Q E s := by
  cases x with
  | non => cases hn; rw [rep_non.mp r] at rx; exact isinst_ok I rx .non e h
  | bl b => cases hn; rw [rep_bl.mp r] at rx; exact isinst_ok I rx (.bl b) e h
  | int b => cases hn; rw [rep_int.mp r] at rx; exact isinst_ok I rx (.int b) e h
  | str b => cases hn; rw [rep_str.mp r] at rx; exact isinst_ok I rx (.str b) e h
  | tup l =>
    cases hn
    obtain ⟨a, xs, rfl, s1, q1⟩ := rep_tupS r
    cases (show u = Value.ref a from rx)
    obtain ⟨its, rv, ⟨o, h1, h2, _⟩, hz⟩ := I.tuple ((un.sub 0).seqT s1)
    exact PySem.W.kia_one PySem.W.kitx_tuple I.kIn ⟨o, h1, h2⟩ e (fun z => nomatch z) h
  | lst l =>
    cases hn
    obtain ⟨a, xs, rfl, s1, q1⟩ := rep_lst.mp r
    exact isinst_ok I rx (.lst (un.sub 0 _ _ s1)) e h
  | _ => cases hn
theorem f_isi (hK : X.K = K) : CallR X (.builtin "isinstance") (rVs K wIsi) := by
  subst hK
  intro pins s σ H xs us Q I rv ⟨p, l, P, u, r, w, k⟩
  match l, w with
  | [x, .ty T], w =>
    obtain ⟨n, hn, w⟩ := optK_of w
    obtain ⟨a, b, rfl, r1, r2⟩ := two_of r
    obtain ⟨ua, ub, rfl, q1, q2⟩ := Vals.two rv
    rw [rep_ty.mp r2] at q2
    cases (show ub = Value.type T from q2)
    cases hT : (["int", "bool", "str", "tuple", "list"].contains T) with
    | false => rw [hT] at w; exact w.elim
    | true =>
      rw [hT] at w
      exact isi_ok I u r1 q1 hn (kit_tab n (kind_mem hn) T (List.contains_iff_mem.mp hT)) fun tk => ⟨.bl _, H, I.tok tk, rfl, keep0 u (show P (.bl (isT n T)) from w) k (rep_bl.mpr rfl)⟩
end
section
variable {X : Cx} {K : PySem.W.Frag} {E : St -> XK} {es : List Expr} {m : Mv Tv} {ms : List (Mv Tv)}
theorem va_BinOp {a b : Expr} {o : Operator} {c : Pos} (ha : PE X (.BinOp a o b c) (tV K E m)) (hr : PA X es (tVa K E ms)) : PA X ((.BinOp a o b c) :: es) (tVa K E (m :: ms)) := va_cons ha hr rfl
theorem va_UnaryOp {o : UnaryOp} {a : Expr} {c : Pos} (ha : PE X (.UnaryOp o a c) (tV K E m)) (hr : PA X es (tVa K E ms)) : PA X ((.UnaryOp o a c) :: es) (tVa K E (m :: ms)) := va_cons ha hr rfl
theorem va_ListComp {a : Expr} {b : List Comprehension} {d : Scope} {c : Pos} (ha : PE X (.ListComp a b d c) (tV K E m)) (hr : PA X es (tVa K E ms)) : PA X ((.ListComp a b d c) :: es) (tVa K E (m :: ms)) := va_cons ha hr rfl
theorem va_Compare {a : Expr} {o : List CmpOp} {b : List Expr} {c : Pos} (ha : PE X (.Compare a o b c) (tV K E m)) (hr : PA X es (tVa K E ms)) : PA X ((.Compare a o b c) :: es) (tVa K E (m :: ms)) := va_cons ha hr rfl
theorem va_Call {a : Expr} {b : List Expr} {d : List Keyword} {c : Pos} (ha : PE X (.Call a b d c) (tV K E m)) (hr : PA X es (tVa K E ms)) : PA X ((.Call a b d c) :: es) (tVa K E (m :: ms)) := va_cons ha hr rfl
theorem va_Constant {a : Const} {b : Nat} {c : Pos} (ha : PE X (.Constant a b c) (tV K E m)) (hr : PA X es (tVa K E ms)) : PA X ((.Constant a b c) :: es) (tVa K E (m :: ms)) := va_cons ha hr rfl
theorem va_Subscript {a b : Expr} {c : Pos} (ha : PE X (.Subscript a b c) (tV K E m)) (hr : PA X es (tVa K E ms)) : PA X ((.Subscript a b c) :: es) (tVa K E (m :: ms)) := va_cons ha hr rfl
theorem va_Name {a : Str} {c : Pos} (ha : PE X (.Name a c) (tV K E m)) (hr : PA X es (tVa K E ms)) : PA X ((.Name a c) :: es) (tVa K E (m :: ms)) := va_cons ha hr rfl
theorem va_Tuple {b : List Expr} {a : Nat} {c : Pos} (ha : PE X (.Tuple b a c) (tV K E m)) (hr : PA X es (tVa K E ms)) : PA X ((.Tuple b a c) :: es) (tVa K E (m :: ms)) := va_cons ha hr rfl
end
end L2
set_option Elab.async false
set_option linter.all false
set_option maxRecDepth 100000
set_option maxHeartbeats 4000000
namespace L2
open PySem PySem.Spec PyProof.Rows
inductive Comp (Ry : Tv -> Tv -> Prop) (Rn : Tv -> Prop) : List Tv -> List Tv -> Prop where
  | nil : Comp Ry Rn [] []
  | yes {x y : Tv} {xs ys : List Tv} : Ry x y -> Comp Ry Rn xs ys -> Comp Ry Rn (x :: xs) (y :: ys)
  | no {x : Tv} {xs ys : List Tv} : Rn x -> Comp Ry Rn xs ys -> Comp Ry Rn (x :: xs) ys
def CStep (g : Gv) (c : Mv Bool) (e : Mv Tv) (ρ0 : En) (x : Tv) (Ky : Tv -> Prop) (Kn : Prop) : Prop := ∃ ρ, g x ρ0 = some ρ /\ c ρ fun b ρ1 => ρ1 = ρ /\ match b with
    | .ok true => e ρ fun r ρ2 => ρ2 = ρ /\ match r with | .ok y => Ky y | .er _ => False
    | .ok false => Kn
    | .er _ => False
theorem compW_by {g : Gv} {c : Mv Bool} {e : Mv Tv} {ρ0 : En} (Ry : Tv -> Tv -> Prop) (Rn : Tv -> Prop) : ∀ {xs acc : List Tv} {P : List Tv -> Prop},
    (∀ x ∈ xs, ∀ (Ky : Tv -> Prop) (Kn : Prop), (∀ y, Ry x y -> Ky y) -> (Rn x -> Kn) -> CStep g c e ρ0 x Ky Kn) -> (∀ ys, Comp Ry Rn xs ys -> P (acc ++ ys)) -> compW g c e ρ0 xs acc P
  | [], acc, P, _, h => by have := h [] .nil; rw [List.append_nil] at this; exact this
  | x :: xs, acc, P, hs, h => by
    refine hs x List.mem_cons_self (fun y => compW g c e ρ0 xs (acc ++ [y]) P) (compW g c e ρ0 xs acc P) (fun y r => ?_) (fun r => ?_)
    · refine compW_by Ry Rn (fun z hz => hs z (List.mem_cons_of_mem _ hz)) fun ys q => ?_
      rw [List.append_assoc]
      exact h (y :: ys) (.yes r q)
    · exact compW_by Ry Rn (fun z hz => hs z (List.mem_cons_of_mem _ hz)) fun ys q => h ys (.no r q)
theorem compW_any {g : Gv} {c : Mv Bool} {e : Mv Tv} {ρ0 : En} {α : Type} (en : α -> Tv) (G : Tv -> α -> Prop) {xs : List Tv} {P : List Tv -> Prop}
    (hs : ∀ x ∈ xs, ∀ (Ky : Tv -> Prop) (Kn : Prop), (∀ a, G x a -> Ky (en a)) -> CStep g c e ρ0 x Ky Kn) (h : ∀ as : List α, Paired G xs as -> P (as.map en)) : compW g c e ρ0 xs [] P :=
  compW_by (fun x y => ∃ a, G x a /\ y = en a) (fun _ => False) (fun x hx Ky Kn k _ => hs x hx Ky Kn fun a q => k _ ⟨a, q, rfl⟩) fun ys q => by
    have e : ∃ as : List α, Paired G xs as /\ ys = as.map en := by
      clear h hs
      induction q with
      | nil => exact ⟨[], .nil, rfl⟩
      | yes r _ ih =>
        obtain ⟨a, ga, rfl⟩ := r
        obtain ⟨as, p, rfl⟩ := ih
        exact ⟨a :: as, .cons ga p, rfl⟩
      | no r _ _ => exact r.elim
    obtain ⟨as, p, rfl⟩ := e
    exact h as p
def FStep (g : Gv) (b : Sv) (x : Tv) (ρ : En) (K : En -> Prop) (P : Fl -> En -> Prop) : Prop := ∃ ρ', g x ρ = some ρ' /\ b ρ' (turnK K P)
theorem forW_go {g : Gv} {b : Sv} {P : Fl -> En -> Prop} (I : Nat -> En -> Prop) : ∀ {xs : List Tv} {ρ : En} (n : Nat), I n ρ ->
    (∀ i x ρ, xs[i]? = some x -> I (n + i) ρ -> ∀ K : En -> Prop, (∀ ρ', I (n + i + 1) ρ' -> K ρ') -> FStep g b x ρ K P) -> (∀ ρ, I (n + xs.length) ρ -> P .nx ρ) -> forW g b xs ρ P
  | [], ρ, n, h, _, fin => fin ρ h
  | x :: xs, ρ, n, h, hs, fin => by
    refine hs 0 x ρ rfl h (fun ρ' => forW g b xs ρ' P) fun ρ' h' => ?_
    refine forW_go I (n + 1) h' (fun i y ρ e hi K k => ?_) fun ρ hf => fin ρ ?_
    · have q := hs (i + 1) y ρ (by simpa using e) (by rw [show n + (i + 1) = n + 1 + i by omega]; exact hi) K (by rw [show n + (i + 1) + 1 = n + 1 + i + 1 by omega]; exact k)
      exact q
    · rw [List.length_cons, show n + (xs.length + 1) = n + 1 + xs.length by omega]; exact hf
theorem forW_by {g : Gv} {b : Sv} {P : Fl -> En -> Prop} (I : Nat -> En -> Prop) {xs : List Tv} {ρ : En} (h : I 0 ρ)
    (hs : ∀ i x ρ, xs[i]? = some x -> I i ρ -> ∀ K : En -> Prop, (∀ ρ', I (i + 1) ρ' -> K ρ') -> FStep g b x ρ K P) (fin : ∀ ρ, I xs.length ρ -> P .nx ρ) : forW g b xs ρ P :=
  forW_go I 0 h (fun i x ρ e hi K k => hs i x ρ e (by rw [Nat.zero_add] at hi; exact hi) K (by rw [Nat.zero_add] at k; exact k)) fun ρ hf => fin ρ (by rw [Nat.zero_add] at hf; exact hf)
theorem compW_enc0 {α : Type} {g : Gv} {c : Mv Bool} {e : Mv Tv} {ρ0 : En} (p : α -> Bool) (en f : α -> Tv) : ∀ {as : List α} {acc : List Tv} {P : List Tv -> Prop},
    (∀ a ∈ as, ∀ (Ky : Tv -> Prop) (Kn : Prop), (p a = true -> Ky (f a)) -> (p a = false -> Kn) -> CStep g c e ρ0 (en a) Ky Kn) -> P (acc ++ (as.filter p).map f) -> compW g c e ρ0 (as.map en) acc P
  | [], acc, P, _, h => by rw [List.filter_nil, List.map_nil, List.append_nil] at h; exact h
  | a :: as, acc, P, hs, h => by
    refine hs a List.mem_cons_self (fun y => compW g c e ρ0 (as.map en) (acc ++ [y]) P) (compW g c e ρ0 (as.map en) acc P) (fun q => ?_) (fun q => ?_)
    · refine compW_enc0 p en f (fun z hz => hs z (List.mem_cons_of_mem _ hz)) ?_
      rw [List.filter_cons, if_pos q] at h
      rw [List.append_assoc]; exact h
    · refine compW_enc0 p en f (fun z hz => hs z (List.mem_cons_of_mem _ hz)) ?_
      rw [List.filter_cons, if_neg (by rw [q]; decide)] at h
      exact h
theorem compW_enc {α : Type} {g : Gv} {c : Mv Bool} {e : Mv Tv} {ρ0 : En} {as : List α} {P : List Tv -> Prop} (en f : α -> Tv) (hs : ∀ a ∈ as, ∀ (Ky : Tv -> Prop) (Kn : Prop), Ky (f a) -> CStep g c e ρ0 (en a) Ky Kn) (h : P (as.map f)) : compW g c e ρ0 (as.map en) [] P :=
  compW_enc0 (fun _ => true) en f (fun a ha Ky Kn k _ => hs a ha Ky Kn (k rfl)) (by rw [List.filter_eq_self.mpr (fun _ _ => rfl)]; exact h)
theorem compW_encF {α : Type} {g : Gv} {c : Mv Bool} {e : Mv Tv} {ρ0 : En} {as : List α} {P : List Tv -> Prop} (p : α -> Bool) (en f : α -> Tv) (hs : ∀ a ∈ as, ∀ (Ky : Tv -> Prop) (Kn : Prop), (p a = true -> Ky (f a)) -> (p a = false -> Kn) -> CStep g c e ρ0 (en a) Ky Kn) (h : P ((as.filter p).map f)) : compW g c e ρ0 (as.map en) [] P :=
  compW_enc0 p en f hs h
theorem ite_go {x : Bool} {α β : Type} {a b : α -> β -> Prop} {ρ : α} {P : β} (h1 : x = true -> a ρ P) (h0 : x = false -> b ρ P) : (if x = true then a else b) ρ P := by
  cases x with
  | true => exact h1 rfl
  | false => exact h0 rfl
theorem ite_go1 {x : Bool} {α : Type} {a b : α -> Prop} {ρ : α} (h1 : x = true -> a ρ) (h0 : x = false -> b ρ) : (if x = true then a else b) ρ := by
  cases x with
  | true => exact h1 rfl
  | false => exact h0 rfl
theorem atI_in {α : Type} {l : List α} {i : Int} (h0 : 0 <= i) (h1 : i < l.length) : ∃ t, atI l i = some t /\ l[i.toNat]? = some t := by
  obtain ⟨n, rfl⟩ := Int.eq_ofNat_of_zero_le h0
  have hn : n < l.length := by omega
  exact ⟨l[n], atI_nat (List.getElem?_eq_getElem hn), by simpa using List.getElem?_eq_getElem hn⟩
theorem ix_mem {l : List Tv} {i : Int} {k : Tv -> Prop} (h0 : 0 <= i) (h1 : i < l.length) (h : ∀ t ∈ l, k t) : optK (atI l i) k := by
  obtain ⟨t, e, m⟩ := atI_in h0 h1
  exact optK_mk e (h t (List.mem_of_getElem? m))
theorem ix_nat {l : List Tv} {i : Nat} {k : Tv -> Prop} {t : Tv} (e : l[i]? = some t) (h : k t) : optK (atI l (i : Int)) k := optK_mk (atI_nat e) h
theorem ix_to {l : List Tv} {i : Int} {k : Tv -> Prop} {t : Tv} (h0 : 0 <= i) (e : l[i.toNat]? = some t) (h : k t) : optK (atI l i) k := by
  obtain ⟨n, rfl⟩ := Int.eq_ofNat_of_zero_le h0
  exact ix_nat (by simpa using e) h
def isSq (w : Tv) (l : List Tv) : Prop := w = .tup l ∨ w = .lst l
theorem sq_ix {w : Tv} {l : List Tv} {i : Int} {t : Tv} {k : Tv -> Prop} (h : isSq w l) (h0 : 0 <= i) (e : l[i.toNat]? = some t) (hk : k t) : wIx w (.int i) k := by
  rcases h with rfl | rfl
  · exact ix_to h0 e hk
  · exact ix_to h0 e hk
theorem rng_mem {n : Nat} {t : Tv} (h : t ∈ rngL 0 n) : ∃ k : Nat, k < n /\ t = .int k := by
  unfold rngL at h
  obtain ⟨k, hk, rfl⟩ := List.mem_map.mp h
  exact ⟨k, by simpa using hk, by simp⟩
theorem rng_get {n i : Nat} {t : Tv} (h : (rngL 0 n)[i]? = some t) : i < n /\ t = .int i := by
  unfold rngL at h
  rw [List.getElem?_map] at h
  obtain ⟨k, hk, rfl⟩ := Option.map_eq_some_iff.mp h
  obtain ⟨hi, rfl⟩ := List.getElem?_eq_some_iff.mp hk
  rw [List.length_range] at hi
  exact ⟨hi, by simp⟩
theorem rng_len {lo : Int} {n : Nat} : (rngL lo n).length = n := by unfold rngL; simp
theorem few_line {n : Nat} (h : n <= 100000) : n < sizeLine := Nat.lt_of_le_of_lt h (by decide)
end L2
set_option Elab.async false
set_option linter.all false
set_option maxRecDepth 100000
set_option maxHeartbeats 4000000
namespace L2
open PySem PySem.Spec PyProof.Rows
abbrev Dt := List (Key × Tv)
def valT (d : Dt) (k : Key) : Option Tv := (d.find? fun kv => decide (kv.1 = k)).map (·.2)
def putT (d : Dt) (k : Key) (t : Tv) : Dt := if (d.any fun kv => decide (kv.1 = k)) = true then d.map (fun kv => if kv.1 = k then (kv.1, t) else kv) else d ++ [(k, t)]
def mergeT (d more : Dt) : Dt := more.foldl (fun acc kv => putT acc kv.1 kv.2) d
def keyT : Tv -> Option Key
  | .int i => some (.inl i)
  | .str x => some (.inr x)
  | _ => none
section
variable {X : Cx} {K : PySem.W.Frag} {E : St -> XK} {G : Hp} {d : Dt} {ds : List (Key × V)} {k : Key} {t : Tv} {v : V}
theorem keyT_of (h : keyT t = some k) (r : Rep K G t v) : v = kV k := by
  cases t with
  | int i => cases h; exact rep_int.mp r
  | str i => cases h; exact rep_str.mp r
  | _ => cases h
theorem RepD.any (h : RepD K G d ds) (k : Key) : (ds.any fun kv => decide (kv.1 = k)) = d.any fun kv => decide (kv.1 = k) := by
  unfold RepD at h
  induction h with
  | nil => rfl
  | cons f _ ih => rw [List.any_cons, List.any_cons, ih, f.1]
theorem RepD.val (h : RepD K G d ds) (k : Key) : (∃ t v, valT d k = some t /\ valV ds k = some v /\ Rep K G t v) ∨ (valT d k = none /\ valV ds k = none) := by
  unfold RepD at h
  unfold valT valV
  induction h with
  | nil => exact .inr ⟨rfl, rfl⟩
  | @cons a b l1 l2 f _ ih =>
    rw [List.find?_cons, List.find?_cons, ← f.1]
    cases e : decide (a.1 = k) with
    | true => exact .inl ⟨_, _, rfl, rfl, f.2⟩
    | false => exact ih
theorem RepD.app {d' : Dt} {ds' : List (Key × V)} (h : RepD K G d ds) (h' : RepD K G d' ds') : RepD K G (d ++ d') (ds ++ ds') := by
  unfold RepD at h h' ⊢
  induction h with
  | nil => exact h'
  | cons f _ ih => exact .cons f ih
theorem RepD.put (h : RepD K G d ds) (r : Rep K G t v) (k : Key) : RepD K G (putT d k t) (putK ds k v) := by
  unfold putT putK
  rw [h.any k]
  split
  · rename_i hz
    clear hz
    unfold RepD at h ⊢
    induction h with
    | nil => exact .nil
    | @cons a b l1 l2 f _ ih =>
      refine .cons ?_ ih
      dsimp only
      by_cases c : a.1 = k
      · rw [if_pos c, if_pos (f.1 ▸ c)]; exact ⟨f.1, r⟩
      · rw [if_neg c, if_neg (f.1 ▸ c)]; exact f
  · exact h.app (.cons ⟨rfl, r⟩ .nil)
theorem RepD.merge {m : Dt} {ms : List (Key × V)} (hm : RepD K G m ms) : ∀ {d : Dt} {ds : List (Key × V)}, RepD K G d ds -> RepD K G (mergeT d m) (mergeK ds ms) := by
  unfold RepD at hm
  induction hm with
  | nil => intro d ds h; exact h
  | @cons a b l1 l2 f _ ih =>
    intro d ds h
    show RepD K G (mergeT (putT d a.1 a.2) l1) (mergeK (putK ds b.1 b.2) l2)
    rw [← f.1]
    exact ih (h.put f.2 a.1)
theorem RepD.len (h : RepD K G d ds) : ds.length = d.length := (Paired.length h).symm
def vGetO2 (i : Nat) (k f : Mv Tv) : Mv Tv := fun ρ P => match ρ[i]? with
  | some (.od _ _) => vBind k (fun x => vBind f fun y ρ P => match keyT x, ρ[i]? with | some c, some (.od _ d) => P (.ok ((valT d c).getD y)) ρ | _, _ => False) ρ P
  | _ => False
theorem v_getO2 {i : Nat} {x : Str} {e f : Expr} {m n : Mv Tv} {xp apos cpos : Pos} (hu : X.A.units + 1 < cLine) (hN : X.N[i]? = some x) (hv : Vis X.env.scope x) (he : PE X e (tV K E m)) (hf : PE X f (tV K E n)) (hm : M2 X (.Name x xp) "get" apos e f cpos) (hd : (x == ("__debug__" : Str)) = false := by decide) (hcd : (x == ("__classdict__" : Str)) = false := by decide) :
    PE X (.Call (.Attribute (.Name x xp) "get" apos) [e, f] [] cpos) (tV K E (vGetO2 i m n)) := by
  refine (pe_dget2 hu (pe_var hN hv hd hcd) he hf hm).imp fun σ H Q ⟨p, ρ, er, P, a, b, c⟩ => ?_
  unfold vGetO2 at a
  split at a
  · rename_i Da d e
    obtain ⟨ds, e1, e2, e3, r⟩ := er.ownD e
    have h : tA K E (Rep K) (vBind m (fun x => vBind n fun y ρ P => match keyT x, ρ[i]? with | some c, some (.od _ d) => P (.ok ((valT d c).getD y)) ρ | _, _ => False)) p ρ σ Q := ⟨P, a, b, c⟩
    refine ⟨.ref Da, e1, Da, rfl, .inl ⟨ds, .inl e2⟩, p, ρ, er, h.bind.mono fun v H1 ⟨y, p1, ρ1, g1, er1, r1, h1⟩ => ⟨p1, ρ1, er1, h1.bind.mono fun u H2 ⟨z, p2, ρ2, g2, er2, r2, P2, a2, b2, _⟩ => ?_⟩⟩
    dsimp only at a2
    split at a2
    · rename_i c' Db d' hk e'
      obtain ⟨ds', f1, f2, f3, rr⟩ := er2.ownD e'
      rw [e1] at f1
      cases f1
      have kv := keyT_of hk r1
      subst kv
      refine ⟨_, DGet.k f2, b2 _ ρ2 a2 _ p2 H2 .refl er2 ?_⟩
      rcases rr.val c' with ⟨t, w, q1, q2, q3⟩ | ⟨q1, q2⟩
      · rw [q1, q2]; exact q3
      · rw [q1, q2]; exact r2
    · exact a2.elim
  · exact a.elim
def wDIx : Tv -> Tv -> (Tv -> Prop) -> Prop
  | .dic ks l, x, k => match keyT x with | some c => optK (valT (ks.zip l) c) k | none => False
  | _, _, _ => False
theorem v_dix {a b : Expr} {ma mb : Mv Tv} {pos : Pos} (hu : X.A.units + 1 < cLine) (ha : PE X a (tV K E ma)) (hb : PE X b (tV K E mb)) (hs : NoSl b) : PE X (.Subscript a b pos) (tV K E (vOp wDIx ma mb)) :=
  (pe_dget hu ha hb hs).imp fun σ H Q ⟨p, ρ, er, h⟩ => ⟨p, ρ, er, h.bind.mono fun v H1 ⟨x, p1, ρ1, g1, er1, r1, h1⟩ => ⟨p1, ρ1, er1, h1.bind.mono fun u H2 ⟨y, p2, ρ2, g2, er2, r2, P, a, b, _⟩ => by
    cases x with
    | dic ks l =>
      obtain ⟨Da, xs, rfl, e, n, r⟩ := rep_dic.mp (r1.up g2.same)
      have a : match keyT y with | some c => optK (valT (ks.zip l) c) fun t => P (.ok t) ρ2 | none => False := a
      cases hk : keyT y with
      | none => rw [hk] at a; exact a.elim
      | some c =>
        rw [hk] at a
        have kv := keyT_of hk r2
        subst kv
        rcases (RepD.of n r).val c with ⟨t, w, q1, q2, q3⟩ | ⟨q1, q2⟩
        · dsimp only at a
          rw [q1] at a
          exact ⟨Da, w, rfl, q2 ▸ DGet.k (er2.uni.sub 0 _ _ e), b t ρ2 a w p2 H2 .refl er2 q3⟩
        · dsimp only at a
          rw [q1] at a
          exact a.elim
    | _ => exact a.elim⟩⟩
def vPutD (i : Nat) (k m : Mv Tv) : Sv := vDo m fun t ρ P => match ρ[i]? with
  | some (.od _ _) => vDo k (fun x ρ P => match keyT x, ρ[i]? with
    | some c, some (.od D d) => d.length < sizeLine /\ P .nx (ρ.set i (.od D (putT d c t)))
    | _, _ => False) ρ P
  | _ => False
theorem vs_putD {i : Nat} {x : Str} {e k : Expr} {m n : Mv Tv} {xp sp pos : Pos} (hu : X.A.units + 1 < cLine) (hN : X.N[i]? = some x) (hv : Vis X.env.scope x) (he : PE X e (tV K E m)) (hk : PE X k (tV K E n))
    (hs : swapsWith e (some (.Subscript (.Name x xp) k sp)) pos.line X.env = pure false := by rfl) (hd : (x == ("__debug__" : Str)) = false := by decide) (hcd : (x == ("__classdict__" : Str)) = false := by decide) :
    PS X (.Assign [.Subscript (.Name x xp) k sp] e pos) (tS K E (vPutD i n m)) :=
  (ps_dput hu (pe_var hN hv hd hcd) hk he hs).imp fun D σ H ⟨p, ρ, P, er, a, h⟩ => ⟨p, ρ, er, (do_tail (H := H) a h).mono fun v H1 ⟨t, p1, ρ1, g1, er1, r1, q, h1⟩ => by
    split at q
    · rename_i Da l e
      obtain ⟨xs, e1, e2, e3, r⟩ := er1.ownD e
      refine ⟨.ref Da, e1, p1, ρ1, er1, (do_tail (H := H1) q h1).mono fun kv H2 ⟨kt, p2, ρ2, g2, er2, r2, q2, h2⟩ => ?_⟩
      split at q2
      · rename_i c Db l' hc e'
        obtain ⟨ys, f1, f2, f3, rr⟩ := er2.ownD e'
        rw [e1] at f1
        cases f1
        obtain ⟨e5, g5⟩ := er2.putOwnD e' (rr.put (r1.up g2.same) c)
        exact ⟨Da, _, rfl, .inl ⟨ys, c, f2, keyT_of hc r2, by rw [rr.len]; exact q2.1, rfl⟩, h2.nx _ q2.2 σ _ _ g5 e5⟩
      · exact q2.elim
    · exact q.elim⟩
def wSortD : List Tv -> (Tv -> Prop) -> Prop
  | [.dic ks l], k => ∃ ns : List Int, ks = ns.map Sum.inl /\ ns.length < 64 /\ k (.lst ((PySem.W.sortI ns).map Tv.int))
  | _, _ => False
theorem f_sortD (hc : X.calm = true) : CallR X (.builtin "sorted") (rVs K wSortD) := by
  refine (call_sortedK hc).imp fun xs H Q ⟨p, l, P, u, r, w, k⟩ => ?_
  match l, w with
  | [.dic ks l], ⟨ns, e, hl, w⟩ =>
    obtain ⟨v, rfl, rr⟩ := one_of r
    obtain ⟨c, ys, rfl, s1, n, q1⟩ := rep_dic.mp rr
    have hz : (ks.zip ys).map (·.1) = ks := by rw [List.map_fst_zip]; rw [q1.len, n]; exact Nat.le_refl _
    refine ⟨c, ks.zip ys, ns, rfl, .inl (u.sub 0 _ _ s1), by rw [hz, e], ?_, fun a n => laid0 u w k n fun s0 => rep_lst.mpr ⟨a, _, rfl, upd_same, RepL.ints⟩⟩
    have : (ks.zip ys).length = ns.length := by rw [← List.length_map (f := (·.1)), hz, e, List.length_map]
    omega
theorem pairs_up {H H' : Hp} {xs : List V} {ds : List (Key × V)} (h : PairsV K H xs ds) (e : Same H H') : PairsV K H' xs ds := by
  unfold PairsV at h ⊢
  induction h with
  | nil => exact .nil
  | cons f _ ih => obtain ⟨p, a, b⟩ := f; exact .cons ⟨p, a, e.seqT b⟩ ih
theorem Inv.tupN {pins : List (Addr × Obj)} {σ : St} {H : Hp} {s : Shared} {a : Addr} {xs : List V} (I : Inv X pins σ H s) (h : SqN X.K H a xs) : ∃ (o : Obj) (its : List Value) (n : Nat), Vals xs its /\ s.heap.get? a = some o /\ o.cls = .type "tuple" /\ o.dict = none /\ o.data = .seq its.toArray n /\ xs.length <= sizeLine := by
  rcases h with h | ⟨o, its, n, hk, hc, hs, hz, r, hd⟩
  · obtain ⟨z, its, r, o, hx, ⟨hcl, hdn⟩, n, hdat⟩ := h.ok I.hok
    exact ⟨o, its, n, r, hx, hcl, hdn, hdat, z⟩
  · refine ⟨o, its.toList, n, r, I.kIn a o hk, hc, hd, by simpa using hs, ?_⟩
    have e := r.length
    simp only [Array.length_toList] at e
    omega
theorem call_dictN (hK : X.K = K) (hc : X.calm = true) : CallR X (.type "dict") (fun xs H Q => ∃ t ps kvs, xs = [.ref t] /\ SqN K H t ps /\ PairsV K H ps kvs /\ ∀ p, H p = none -> Q (.ref p) (upd H p (.dK (mergeK [] kvs)))) := by
  subst hK
  intro pins s σ H xs us Q I r h
  obtain ⟨t, ps, kvs, rfl, ht, pr, q⟩ := h
  obtain ⟨u, rfl, rx⟩ := r.one
  cases (show u = Value.ref t from rx)
  obtain ⟨o, its, n, rv, hx, hcl, hdn, hdat, hz⟩ := Inv.tupN I ht
  obtain ⟨rs, h1, h2, h3⟩ := pairs_raw I pr rv
  have hl : rs.length <= sizeLine := by rw [h2, ← rv.length]; exact hz
  refine Dt.call_tuple (knd := mixKind X.prog X.w) (kvs := rs) (I.ok.hd hc) hx hcl hdat hdn (by simp [h2]) (fun j u kv e1 e2 => h3 j u kv (by simpa using e1) e2) hl fun h' tk k d => ?_
  have hf : H s.heap.objs.size = none := I.hok.fresh (Nat.le_refl _)
  have lk : kvs.length = rs.length := h1.length
  refine ⟨.ref s.heap.objs.size, _, I.laid (t' := tk) k (Nat.le_refl _) (dk_new ?_ (beq_eq_false_iff_ne.mpr (Ne.symm (Nat.ne_of_lt I.big))) (h1.merge .nil) d), rfl, q _ hf⟩
  have := length_mergeK kvs []
  rw [List.length_nil] at this
  omega
def pairT : Tv -> Option (Key × Tv)
  | .tup [a, b] => (keyT a).map fun k => (k, b)
  | _ => none
def pairsT : List Tv -> Option (List (Key × Tv))
  | [] => some []
  | t :: l => match pairT t, pairsT l with | some a, some d => some (a :: d) | _, _ => none
theorem pairs_rep {G : Hp} : ∀ {l : List Tv} {d : List (Key × Tv)} {xs : List V}, pairsT l = some d -> RepL K G l xs -> ∃ ds, PairsV K G xs ds /\ RepD K G d ds
  | [], d, xs, h, r => by cases h; rw [repL_nil.mp r]; exact ⟨[], .nil, .nil⟩
  | t :: l, d, xs, h, r => by
    obtain ⟨v, vs, rfl, a, b⟩ := repL_cons.mp r
    unfold pairsT at h
    split at h
    · rename_i c d' e1 e2
      cases h
      obtain ⟨ds, p1, p2⟩ := pairs_rep e2 b
      cases t with
      | tup m =>
        match m, e1 with
        | [x, y], e1 =>
          unfold pairT at e1
          obtain ⟨k, hk, rfl⟩ := Option.map_eq_some_iff.mp e1
          obtain ⟨a1, zs, rfl, s1, q1⟩ := rep_tupS a
          obtain ⟨u, w, rfl, r1, r2⟩ := two_of q1
          refine ⟨(k, w) :: ds, .cons ⟨a1, rfl, ?_⟩ p1, .cons ⟨rfl, r2⟩ p2⟩
          rw [← keyT_of hk r1]
          exact s1
      | _ => cases e1
    · cases h
def vNewD (i : Nat) (ms : List (Mv Tv)) : Sv := vDo (vArgs ms) fun xs ρ P => match xs with
  | [.tup l] => (match pairsT l with | some d => ∀ D, P .nx (ρ.set i (.od D (mergeT [] d))) | none => False)
  | _ => False
theorem vs_newD {i : Nat} {x : Str} {e : Expr} {ms : List (Mv Tv)} {pos pos' fp cp : Pos} (hN : X.N.Nodup) (hi : X.N[i]? = some x) (hx : Loc X.env.scope x) (hK : X.K = K) (hc : X.calm = true) (hg : Gl X "dict") (hm : X.mg "dict" = none) (ha : PA X [e] (tVa K E ms)) (hst : starEach [e] X.env = [(false, eval e X.env)] := by rfl)
    (hs : swapsWith (.Call (.Name "dict" fp) [e] [] cp) (some (.Name x pos')) pos.line X.env = pure false := by rfl) (hf : X.fn x = true ∨ X.env.scope.names.lookup x = some .local := by first | exact .inl rfl | exact .inr rfl | assumption) :
    PS X (.Assign [.Name x pos'] (.Call (.Name "dict" fp) [e] [] cp) pos) (tS K E (vNewD i ms)) := fun pins s σ H D I ⟨p, ρ, P, er, a, h⟩ => by
  refine ps_set hN hi hx (pe_callTy (call_dictN hK hc) hg hm bt_dict ha.toS (by decide) (by decide) hst rfl) hs hf pins s σ H D I ⟨p, ρ, er, (do_tail (H := H) a h).mono fun vs H1 ⟨xs, p1, ρ1, g1, er1, r1, q, h1⟩ => ?_⟩
  have hl : i < ρ1.length := by
    have h0 : i < X.N.length := (List.getElem?_eq_some_iff.mp hi).1
    rw [← er1.len, I.len]; exact h0
  match xs, q with
  | [.tup l], q =>
    obtain ⟨v, rfl, r⟩ := one_of r1
    obtain ⟨c, ys, rfl, s1, q1⟩ := rep_tup.mp r
    dsimp only at q
    split at q
    · rename_i d hd
      obtain ⟨ds, p1', p2'⟩ := pairs_rep hd q1
      refine ⟨c, ys, ds, rfl, (er1.uni.sub 0).seqN s1, pairs_up p1' (er1.uni.sub 0), fun Da n => ?_⟩
      obtain ⟨e2, g2⟩ := er1.setNewD hl n (p2'.merge (d := []) (ds := []) .nil)
      exact h1.nx _ (q Da) _ _ _ g2 e2
    · exact q.elim
theorem hu1 {n : Nat} (h : n + 64 < cLine) : n + 1 < cLine := by omega
end
end L2
set_option Elab.async false
set_option linter.all false
set_option maxRecDepth 100000
set_option maxHeartbeats 4000000
namespace L2
open PySem PySem.Spec PyProof.Rows
def IteTK (K : PySem.W.Frag) (a : Addr) : It :=
  ⟨fun i H => ∃ xs x, SqT K H a xs /\ xs[i]? = some x, fun i H v H' => ∃ p x, H p = none /\ v = .ref p /\ H' = upd H p (.tup [.int i, x]) /\ ∀ xs, SqT K H a xs -> xs[i]? = some x, fun i H => ∃ xs, SqT K H a xs /\ xs.length <= i⟩
def iEnumN (K : PySem.W.Frag) (ta : TA) : TI := fun σ H R => ta σ H fun vs H1 => ∃ a, vs = [.ref a] /\ (∃ xs, SqT K H1 a xs) /\ R (IteTK K a) H1
theorem turn_enumTK {P : Program} {w : World} {K : PySem.W.Frag} {elts : List Expr} {x1 : Nat} {pos : Pos} (a it e : Addr) (hne : e ≠ it) : Turn P w K (.Tuple elts x1 pos) (IteTK K a) [e, it] e (fun i h => (∃ old, IsEnum h e it i old) /\ h.IsTupleIter it a i) where
  mem := by simp
  obj := fun i h st b hb => by
    obtain ⟨⟨old, he⟩, hit⟩ := st
    have hb' : b = e ∨ b = it := by simpa using hb
    rcases hb' with rfl | rfl
    · exact ⟨_, he, fun v z => nomatch z⟩
    · obtain ⟨o, e, c, d⟩ := hit
      exact ⟨o, e, fun v z => by rw [d] at z; cases z⟩
  keep := fun i h h' st k => by
    obtain ⟨⟨old, he⟩, o, ho, r⟩ := st
    exact ⟨⟨old, k e (by simp) _ he⟩, o, k it (by simp) o ho, r⟩
  item := by
    intro X hP hw hK hc i pins s σ H E I hf st hg
    subst hP hw hK
    obtain ⟨⟨old, he⟩, hit⟩ := st
    obtain ⟨xs, x, hq, hx⟩ := hg
    obtain ⟨its, rv, p, hz⟩ := I.tuple hq
    obtain ⟨u, hu, ru⟩ := rv.get hx
    have fe := hf e (by simp)
    have fi := hf it (by simp)
    have nt : ∀ b u, H b = some u -> b ≠ e /\ b ≠ it := fun b u q => ⟨(fun z => by rw [z, fe.1] at q; cases q), (fun z => by rw [z, fi.1] at q; cases q)⟩
    have na : a ≠ e /\ a ≠ it := by
      obtain ⟨o, ho, hcl, _⟩ := p
      refine ⟨fun z => ?_, fun z => ?_⟩
      · rw [z] at ho
        have he' : s.heap.get? e = some _ := he
        rw [he'] at ho
        cases ho
        simp at hcl
      · obtain ⟨o2, ho2, hc2, _⟩ := hit
        rw [z, ho2] at ho
        cases ho
        rw [hc2] at hcl
        simp at hcl
    have hui : its.toArray[i]? = some u := by simpa using hu
    have hlt : i < its.toArray.size := (Array.getElem?_eq_some_iff.mp hui).1
    refine wpAny_pyNext_enum_itemD (Dt.draws (A := X.A.in1) (I.ok.hd hc) it a na.2 its.toArray) he ⟨hit, show s.heap.IsTuple a its.toArray from p⟩ hlt hne (by simp [hne, Ne.symm na.1]) fun u' h' tk hu' ho' hst' ht' hsz' hk' => ?_
    have hit' := hst'.1
    have eu : u' = u := by rw [hui] at hu'; exact (Option.some.inj hu').symm
    subst eu
    refine ⟨_, rfl, wpAny_letOwnedTupleGo_enum (s := { s with heap := h', toks := tk + 1 }) ho' fun h2 he2 sb2 => ?_⟩
    have hel : e < s.heap.objs.size := Heap.lt_size he
    have nn : H s.heap.objs.size = none := I.hok.fresh (Nat.le_refl _)
    have keep : ∀ b o, b ≠ e -> b ≠ it -> s.heap.get? b = some o -> h2.get? b = some o := fun b o n1 n2 q => (sb2.2 b n1).trans (hk' b o n1 n2 q)
    have mem2 : ∀ b, b ∉ [e, it] -> b ≠ e /\ b ≠ it := fun b hb => by simpa using hb
    have I1 : Inv X pins σ H { s with heap := h2, toks := tk + 1 } := by
      refine I.step (g' := s.gens) (d' := s.drawn) (ch := [e, it]) (fun b hb => ?_) (fun b o _ _ hc q _ => keep b o (mem2 b hc).1 (mem2 b hc).2 q) (fun b o _ _ hc q _ => ⟨o.slots, keep b o (mem2 b hc).1 (mem2 b hc).2 q⟩) (fun _ _ _ _ n => n)
        (fun b o hc q => ⟨o, keep b o (mem2 b hc).1 (mem2 b hc).2 q⟩) (fun _ _ q => q) (fun _ _ _ q => q) (fun b ps q => ⟨#[], by rw [q]; simp⟩) (fun m hm => ?_) (fun b u q => ?_) I.bare
      · have hb' : b = e ∨ b = it := by simpa using hb
        rcases hb' with rfl | rfl
        · exact ⟨fe.2.2.2.1, fe.2.1, fe.2.2.2.2.1, fe.2.2.2.2.2⟩
        · exact ⟨fi.2.2.2.1, fi.2.1, fi.2.2.2.2.1, fi.2.2.2.2.2⟩
      · obtain ⟨o, es, ep, ho, r⟩ := hm
        exact ⟨o, es, ep, keep _ o (Ne.symm fe.2.1) (Ne.symm fi.2.1) ho, r⟩
      · refine (I.hok b u q).stay (fun c v hc q' => keep c v ?_ ?_ q') (fun _ q' => q') fun _ _ q' => q'
        · rcases hc with z | z
          · rw [z]; exact (nt b u q).1
          · exact (nt c _ z).1
        · rcases hc with z | z
          · rw [z]; exact (nt b u q).2
          · exact (nt c _ z).2
    have ht2 : h2.get? s.heap.objs.size = some { cls := .type "tuple", data := .seq #[.int i tk, u'] } := (sb2.2 _ (Nat.ne_of_gt hel)).trans ht'
    have I2 : Inv X pins σ (upd H s.heap.objs.size (.tup [.int i, x])) { s with heap := h2, toks := tk + 1 } :=
      I.later (Heap.get?_none_of_le (Nat.le_refl _)) I1 nn ⟨(by show 2 <= sizeLine; decide), [.int i tk, u'], .cons ⟨_, rfl⟩ (.cons ru .nil), _, ht2, ⟨rfl, rfl⟩, 0, rfl⟩
    refine ⟨.ref s.heap.objs.size, _, I2, rfl, ⟨s.heap.objs.size, x, nn, rfl, rfl, fun ys hy => by rw [I.sqK_inj (k := true) hy hq]; exact hx⟩, ⟨⟨_, he2⟩, hit'.extBut sb2.extBut (Ne.symm hne)⟩, fun b hb => ?_⟩
    have hlt : b < s.heap.objs.size := by
      have hb' : b = e ∨ b = it := by simpa using hb
      rcases hb' with rfl | rfl
      · exact hel
      · obtain ⟨o, e, _⟩ := hit; exact Heap.lt_size e
    rw [upd_ne (Nat.ne_of_lt hlt)]
    exact (hf b hb).1
  done := by
    intro X hP hw hK hc i pins s σ H E I hf st hg
    subst hP hw hK
    obtain ⟨⟨old, he⟩, hit⟩ := st
    obtain ⟨xs, hq, hx⟩ := hg
    obtain ⟨its, rv, p, hz⟩ := I.tuple hq
    obtain ⟨f0, f1, f2, f3, f4, f5⟩ := hf it (by simp)
    have fe := hf e (by simp)
    have hl := rv.length
    have hi2 : i = its.toArray.size ∨ its.toArray.size < i := by
      rw [List.size_toArray]; omega
    refine Dt.enum_end (I.ok.hd hc) he hit (show s.heap.IsTuple a its.toArray from p) (by rw [Array.getElem?_eq_none_iff, List.size_toArray]; omega) fun h' eb => ⟨rfl, I.turned (t' := s.toks) (fun b o hb e => eb b o hb e) f0 f1 f3 f4 f5⟩
  self := fun _ _ _ _ _ st h => let ⟨⟨_, he⟩, _⟩ := st; wpAny_pyIter_enum he h
theorem pi_enumTK {X : Cx} {K : PySem.W.Frag} (hK : X.K = K) {elts : List Expr} {x1 : Nat} {tpos : Pos} {a : Expr} {ta : TA} {p pos : Pos} (hg : Gl X "enumerate") (hm : X.mg "enumerate" = none) (ha : PA X [a] ta) (hs : starEach [a] X.env = [(false, eval a X.env)] := by rfl) :
    PI X (.Tuple elts x1 tpos) (.Call (.Name "enumerate" p) [a] [] pos) (iEnumN K ta) := by
  subst hK
  intro pins s σ H R I h
  refine Call_ (ld_blt I hg hm bt_enumerate (PyProof.Rows.callWith_type1 (thn (ha pos pins s σ H _ I h) fun us s1 ⟨vs, H1, I1, r1, q1⟩ => ?_) hs rfl))
  obtain ⟨l, e, ⟨xs, hq⟩, q⟩ := q1
  subst e
  obtain ⟨u, rfl, rx⟩ := r1.one
  cases (show u = Value.ref l from rx)
  obtain ⟨its, rv, pl, hz⟩ := I1.tuple hq
  refine Dt.call_enum (show s1.heap.IsTuple l its.toArray from pl) fun h' he hit hsz hk => ?_
  refine wpAny_pyIter_enum he ?_
  have I2 : Inv X pins σ H1 { s1 with heap := h' } := I1.kept (t' := s1.toks) hk
  refine ⟨s1.heap.objs.size + 1, [s1.heap.objs.size + 1, s1.heap.objs.size], _, _, H1, rfl, I2, turn_enumTK l _ _ (Nat.succ_ne_self _), ⟨⟨_, he⟩, hit⟩, fun b hb => ?_, q⟩
  have hb' : b = s1.heap.objs.size + 1 ∨ b = s1.heap.objs.size := by simpa using hb
  have ge : s1.heap.objs.size <= b := by
    rcases hb' with rfl | rfl
    · exact Nat.le_succ _
    · exact Nat.le_refl _
  have F := I1.fpOk ge (I1.hok.fresh ge)
  exact F
variable {X : Cx} {K : PySem.W.Frag} {E : St -> XK}
theorem jok_enumTK {a : Addr} {xs : List V} {p : Pts} {l : List Tv} (s : SqN K (p 0) a xs) (r : RepL K (p 0) l xs) : JOk K (IteTK K a) p (enumL l) := fun p' H' e u => by
  have s' : SqT K H' a xs := ((e.trans (u.sub 0)).seqN s).t
  refine ⟨fun i t ht => ?_, ⟨xs, s', by rw [r.len, enum_len]; exact Nat.le_refl _⟩⟩
  obtain ⟨t', ht', rfl⟩ := enum_get ht
  obtain ⟨v, hv, q⟩ := r.get ht'
  refine ⟨⟨xs, v, s', hv⟩, fun x H2 ⟨b, y, n, y1, y2, y3⟩ => ?_⟩
  have := y3 xs s'
  rw [hv] at this
  cases this
  rw [y1, y2]
  exact pair_laid u n (rep_int.mpr rfl) (q.up e)
theorem vi_enumT {elts : List Expr} {x1 : Nat} {tpos : Pos} {a : Expr} {m : Mv Tv} {p pos : Pos} (hK : X.K = K) (hg : Gl X "enumerate") (hm : X.mg "enumerate" = none) (ha : PA X [a] (tVa K E [m])) (hs : starEach [a] X.env = [(false, eval a X.env)] := by rfl) :
    PI X (.Tuple elts x1 tpos) (.Call (.Name "enumerate" p) [a] [] pos) (iV K E (vEnumT m)) := by
  refine (pi_enumTK hK hg hm ha.toS hs).imp fun σ H R ⟨p, ρ, er, h⟩ => ⟨p, ρ, er, (tA.toIs (H := H) h).mono fun vs H1 ⟨xs, p1, ρ1, g1, er1, r1, P, a, b, _⟩ => ?_⟩
  match xs, a with
  | [.tup l], a =>
    obtain ⟨v, r, rfl, a1, a2⟩ := repL_cons.mp r1
    obtain ⟨q, ys, rfl, s, r⟩ := rep_tup.mp a1
    rw [repL_nil.mp a2]
    exact ⟨q, rfl, ⟨ys, ((er1.uni.sub 0).seqN s).t⟩, b _ ρ1 a _ p1 H1 .refl er1 (jok_enumTK s r)⟩
end L2
set_option Elab.async false
set_option linter.all false
set_option maxRecDepth 100000
set_option maxHeartbeats 4000000
namespace Pw
open PySem L2
seal PE PT PW PA PS PSs PG PGs PI PIf PO
abbrev Lk (s : Stmt) (x : Str) (k : NameKind) : Prop := (defScope s).names.lookup x = some k
def top (i : Nat) : Stmt := PySem.Challenge.pw_planwell_k17_floors_and_ways_on.main.body.getD i (.Pass ⟨0, 0, 0, 0⟩)
abbrev s_greatest_divisor : Stmt := top 5
abbrev s_fraction : Stmt := top 6
abbrev s_plus : Stmt := top 7
abbrev s_minus : Stmt := top 8
abbrev s_times : Stmt := top 9
abbrev s_less : Stmt := top 10
abbrev s_sign : Stmt := top 11
abbrev s_plain : Stmt := top 13
abbrev s_pairs_of : Stmt := top 14
abbrev s_added : Stmt := top 15
abbrev s_scaled : Stmt := top 16
abbrev s_worth : Stmt := top 17
abbrev s_turned : Stmt := top 19
abbrev s_floor : Stmt := top 20
abbrev s_leads_on : Stmt := top 21
abbrev s_pairs_at : Stmt := top 22
abbrev s_stands : Stmt := top 23
abbrev s_goes_with : Stmt := top 24
abbrev s_end_for : Stmt := top 25
abbrev s_l_at : Stmt := top 27
abbrev s_l_mixed : Stmt := top 28
abbrev s_l_lowest : Stmt := top 29
abbrev s_l_fraction : Stmt := top 30
abbrev s_l_plus : Stmt := top 31
abbrev s_l_times : Stmt := top 32
abbrev s_l_order : Stmt := top 33
abbrev s_l_is_fraction : Stmt := top 34
abbrev s_l_same : Stmt := top 35
abbrev s_l_worth : Stmt := top 36
abbrev s_l_unknown : Stmt := top 37
abbrev s_l_pairs : Stmt := top 38
abbrev s_l_stands : Stmt := top 39
abbrev s_l_turned : Stmt := top 40
abbrev s_l_floor : Stmt := top 41
abbrev s_l_leads_on : Stmt := top 42
abbrev s_l_step : Stmt := top 43
abbrev s_l_row : Stmt := top 44
abbrev s_l_price : Stmt := top 45
abbrev s_l_goal : Stmt := top 46
abbrev s_l_floor_good : Stmt := top 47
abbrev s_l_alike : Stmt := top 48
abbrev s_law : Stmt := top 49
structure DefAt (K : PySem.W.Frag) (mg : Str -> Option Value) (x : Str) (st : Stmt) (f : Addr) (fd : FuncData) (ps : List Str) : Prop where
  F : Fun K x x st f fd
  b : Binds K fd ps []
  m : mg x = some (.ref f)
structure Blt (mg : Str -> Option Value) : Prop where
  isinstance : mg "isinstance" = none
  int : mg "int" = none
  bool : mg "bool" = none
  tuple : mg "tuple" = none
  len : mg "len" = none
  abs : mg "abs" = none
  list : mg "list" = none
  range : mg "range" = none
  enumerate : mg "enumerate" = none
  zip : mg "zip" = none
  min : mg "min" = none
  all : mg "all" = none
  str : mg "str" = none
  dict : mg "dict" = none
  sorted : mg "sorted" = none
def BIG : Nat := 2 ^ 8000
theorem lt_big {n k : Nat} (h : n < 2 ^ k) (hk : k <= 8000) : n < BIG := Nat.lt_of_lt_of_le h (Nat.pow_le_pow_right (by decide) hk)
theorem log2_of {n : Nat} (h : n < BIG) : n.log2 < 9000 := by
  rcases Nat.eq_zero_or_pos n with h0 | hp
  · rw [h0]; decide
  · have := (Nat.log2_lt (Nat.ne_of_gt hp)).mpr h
    omega
def gd (a b : Int) : Int := (Int.gcd a b : Int)
theorem gd_step {a b : Int} (ha : 0 <= a) (hb : 0 < b) : gd b (Int.fmod a b) = gd a b := by
  unfold gd
  rw [Int.fmod_eq_emod_of_nonneg _ (by omega)]
  obtain ⟨n, rfl⟩ := Int.eq_ofNat_of_zero_le ha
  obtain ⟨m, rfl⟩ := Int.eq_ofNat_of_zero_le (Int.le_of_lt hb)
  have e : ((n : Int) % (m : Int)) = ((n % m : Nat) : Int) := rfl
  rw [e]
  show ((Nat.gcd m (n % m) : Nat) : Int) = ((Nat.gcd n m : Nat) : Int)
  rw [Nat.gcd_comm n m, Nat.gcd_rec m n, Nat.gcd_comm]
theorem gd_zero {a : Int} (ha : 0 <= a) : gd a 0 = a := by
  unfold gd; rw [Int.gcd_zero_right]; omega
theorem gd_pos {a b : Int} (hb : 0 < b) : 0 < gd a b := by
  unfold gd
  have : 0 < Int.gcd a b := Int.gcd_pos_of_ne_zero_right a (by omega)
  omega
theorem gd_dvd_l (a b : Int) : gd a b ∣ a := Int.gcd_dvd_left ..
theorem gd_dvd_r (a b : Int) : gd a b ∣ b := Int.gcd_dvd_right ..
theorem gd_le {a b : Int} (hb : 0 < b) : gd a b <= b := Int.le_of_dvd hb (gd_dvd_r a b)
theorem fdiv_mul {a g : Int} (hg : 0 < g) (h : g ∣ a) : Int.fdiv a g * g = a := by
  rw [Int.fdiv_eq_ediv_of_nonneg _ (by omega)]
  exact Int.ediv_mul_cancel h
theorem gd_neg_l (a b : Int) : gd (-a) b = gd a b := by
  unfold gd; rw [Int.neg_gcd]
theorem gd_abs (a b : Int) : gd (if a < 0 then -a else a) b = gd a b := by
  split
  · exact gd_neg_l a b
  · rfl
theorem gd_mul {a b m : Int} (hm : 0 <= m) : gd (a * m) (b * m) = gd a b * m := by
  unfold gd
  rw [Int.gcd_mul_right]
  have : (m.natAbs : Int) = m := by omega
  rw [← this]; simp
theorem low {t b g : Int} (hb : 0 < b) (hg : g = gd t b) :
    0 < g /\ 1 <= Int.fdiv b g /\ Int.fdiv t g * b = t * Int.fdiv b g /\ gd (Int.fdiv t g) (Int.fdiv b g) = 1 := by
  have g0 : 0 < g := hg ▸ gd_pos hb
  have ht := fdiv_mul g0 (hg ▸ gd_dvd_l t b)
  have hbb := fdiv_mul g0 (hg ▸ gd_dvd_r t b)
  generalize Int.fdiv t g = x at *
  generalize Int.fdiv b g = y at *
  refine ⟨g0, ?_, ?_, ?_⟩
  · rcases (by omega : 1 <= y ∨ y <= 0) with h | h
    · exact h
    · have := Int.mul_nonpos_of_nonpos_of_nonneg h (Int.le_of_lt g0)
      omega
  · rw [← ht, ← hbb]
    rw [Int.mul_assoc x g y, Int.mul_comm g y]
  · have := gd_mul (a := x) (b := y) (Int.le_of_lt g0)
    rw [ht, hbb, ← hg] at this
    have : (gd x y - 1) * g = 0 := by rw [Int.sub_mul, ← this]; omega
    rcases Int.mul_eq_zero.mp this with h | h
    · omega
    · omega
def ft (t b : Int) : Int := if b < 0 then Int.fdiv (-t) (gd (-t) (-b)) else Int.fdiv t (gd t b)
def fb (t b : Int) : Int := if b < 0 then Int.fdiv (-b) (gd (-t) (-b)) else Int.fdiv b (gd t b)
theorem frac_low {t b : Int} (hb : b ≠ 0) : 1 <= fb t b /\ ft t b * b = t * fb t b /\ gd (ft t b) (fb t b) = 1 := by
  unfold ft fb
  by_cases h : b < 0
  · rw [if_pos h, if_pos h]
    obtain ⟨_, a1, a2, a3⟩ := low (t := -t) (b := -b) (by omega) rfl
    refine ⟨a1, ?_, a3⟩
    have e1 : Int.fdiv (-t) (gd (-t) (-b)) * -b = -(Int.fdiv (-t) (gd (-t) (-b)) * b) := Int.mul_neg _ _
    have e2 : -t * Int.fdiv (-b) (gd (-t) (-b)) = -(t * Int.fdiv (-b) (gd (-t) (-b))) := Int.neg_mul _ _
    rw [e1, e2] at a2
    omega
  · rw [if_neg h, if_neg h]
    obtain ⟨_, a1, a2, a3⟩ := low (t := t) (b := b) (by omega) rfl
    exact ⟨a1, a2, a3⟩
theorem gd_log {t b : Int} (hb : 0 < b) (h : b.natAbs < BIG) : (gd t b).natAbs.log2 < 9000 := by
  refine log2_of (Nat.lt_of_le_of_lt ?_ h)
  have h1 := gd_le (a := t) hb
  have h2 := gd_pos (a := t) hb
  omega
theorem abs_nonneg (a : Int) : 0 <= (if a < 0 then -a else a) := by split <;> omega
structure BadF (K : PySem.W.Frag) (mg : Str -> Option Value) (C : Addr) : Prop where
  m : mg "BadFraction" = some (.ref C)
  e : PySem.W.excIn K C veB "ValueError.__new__" = true
structure DefD (K : PySem.W.Frag) (mg : Str -> Option Value) (x : Str) (st : Stmt) (dV : Value) (f : Addr) (fd : FuncData) (ps : List Str) (ds : List Value) : Prop where
  F : FunD K x x st dV f fd
  b : Binds K fd ps []
  d : Binds K fd ps ds
  v : Vals [.int 1] ds
  m : mg x = some (.ref f)
theorem fdiv_abs {t g : Int} (hg : 0 < g) (h : g ∣ t) : (Int.fdiv t g).natAbs <= t.natAbs := by
  have e := fdiv_mul hg h
  generalize Int.fdiv t g = q at *
  subst e
  rw [Int.natAbs_mul]
  exact Nat.le_mul_of_pos_right _ (by omega)
theorem ft_abs {t b : Int} (hb : b ≠ 0) : (ft t b).natAbs <= t.natAbs := by
  unfold ft
  split
  · have := fdiv_abs (gd_pos (a := -t) (b := -b) (by omega)) (gd_dvd_l (-t) (-b))
    rw [Int.natAbs_neg] at this
    exact this
  · exact fdiv_abs (gd_pos (by omega)) (gd_dvd_l t b)
theorem fb_abs {t b : Int} (hb : b ≠ 0) : (fb t b).natAbs <= b.natAbs := by
  unfold fb
  split
  · have := fdiv_abs (gd_pos (a := -t) (b := -b) (by omega)) (gd_dvd_r (-t) (-b))
    rw [Int.natAbs_neg] at this
    exact this
  · exact fdiv_abs (gd_pos (by omega)) (gd_dvd_r t b)
abbrev Fq := Int × Int
def Red (a : Fq) : Prop := 1 <= a.2 /\ gd a.1 a.2 = 1
def Fb (k : Nat) (a : Fq) : Prop := a.1.natAbs < 2 ^ k /\ a.2.natAbs < 2 ^ k
def mkF (t b : Int) : Fq := (ft t b, fb t b)
def plF (a b : Fq) : Fq := mkF (a.1 * b.2 + b.1 * a.2) (a.2 * b.2)
def tiF (a b : Fq) : Fq := mkF (a.1 * b.1) (a.2 * b.2)
theorem Red.mul {a b : Fq} (ha : Red a) (hb : Red b) : a.2 * b.2 ≠ 0 := Int.mul_ne_zero (by have := ha.1; omega) (by have := hb.1; omega)
theorem mk_red {t b : Int} (h : b ≠ 0) : Red (mkF t b) := by
  obtain ⟨a1, _, a3⟩ := frac_low (t := t) h
  exact ⟨a1, a3⟩
theorem Red.plus {a b : Fq} (ha : Red a) (hb : Red b) : Red (plF a b) := mk_red (ha.mul hb)
theorem Red.times {a b : Fq} (ha : Red a) (hb : Red b) : Red (tiF a b) := mk_red (ha.mul hb)
theorem mul_lt {a b : Int} {j k : Nat} (ha : a.natAbs < 2 ^ j) (hb : b.natAbs < 2 ^ k) : (a * b).natAbs < 2 ^ (j + k) := by
  rw [Int.natAbs_mul, Nat.pow_add]
  exact Nat.mul_lt_mul_of_lt_of_lt ha hb
theorem add_lt {a b : Int} {k : Nat} (ha : a.natAbs < 2 ^ k) (hb : b.natAbs < 2 ^ k) : (a + b).natAbs < 2 ^ (k + 1) := by
  have h1 := Int.natAbs_add_le a b
  rw [Nat.pow_succ]
  omega
theorem pow_up {n j k : Nat} (h : n < 2 ^ j) (hk : j <= k) : n < 2 ^ k := Nat.lt_of_lt_of_le h (Nat.pow_le_pow_right (by decide) hk)
theorem Fb.mono {j k : Nat} {a : Fq} (h : Fb j a) (hk : j <= k) : Fb k a := ⟨pow_up h.1 hk, pow_up h.2 hk⟩
theorem Fb.top {a b : Fq} {j k : Nat} (fa : Fb j a) (fb : Fb k b) : (a.1 * b.2 + b.1 * a.2).natAbs < 2 ^ (j + k + 1) := add_lt (mul_lt fa.1 fb.2) (by rw [Nat.add_comm j k]; exact mul_lt fb.1 fa.2)
theorem Fb.bot {a b : Fq} {j k : Nat} (fa : Fb j a) (fb : Fb k b) : (a.2 * b.2).natAbs < 2 ^ (j + k) := mul_lt fa.2 fb.2
theorem Fb.plus {a b : Fq} {j k : Nat} (ha : Red a) (hb : Red b) (fa : Fb j a) (fb : Fb k b) : Fb (j + k + 1) (plF a b) :=
  ⟨Nat.lt_of_le_of_lt (ft_abs (ha.mul hb)) (fa.top fb), Nat.lt_of_le_of_lt (fb_abs (ha.mul hb)) (pow_up (fa.bot fb) (Nat.le_succ _))⟩
theorem Fb.times {a b : Fq} {j k : Nat} (ha : Red a) (hb : Red b) (fa : Fb j a) (fb : Fb k b) : Fb (j + k) (tiF a b) :=
  ⟨Nat.lt_of_le_of_lt (ft_abs (ha.mul hb)) (mul_lt fa.1 fb.1), Nat.lt_of_le_of_lt (fb_abs (ha.mul hb)) (fa.bot fb)⟩
theorem red_zero {a : Fq} (h : Red a) (z : a.1 = 0) : a = (0, 1) := by
  obtain ⟨x, y⟩ := a
  obtain ⟨h1, h2⟩ := h
  have z' : x = 0 := z
  subst z'
  have h2' : gd 0 y = 1 := h2
  have h1' : 1 <= y := h1
  unfold gd at h2'
  rw [Int.gcd_zero_left] at h2'
  have : y = 1 := by omega
  rw [this]
theorem red_one : Red (0, 1) := ⟨by decide, by decide⟩
theorem mk_zero {t b : Int} (h : b ≠ 0) : (mkF t b).1 = 0 ↔ t = 0 := by
  obtain ⟨a1, a2, _⟩ := frac_low (t := t) h
  show ft t b = 0 ↔ t = 0
  constructor
  · intro z
    rw [z, Int.zero_mul] at a2
    rcases Int.mul_eq_zero.mp a2.symm with q | q
    · exact q
    · omega
  · intro z
    rw [z, Int.zero_mul] at a2
    rcases Int.mul_eq_zero.mp a2 with q | q
    · rw [z]; exact q
    · exact absurd q h
theorem ti_zero {a b : Fq} (ha : Red a) (hb : Red b) : (tiF a b).1 = 0 ↔ a.1 = 0 ∨ b.1 = 0 := by
  unfold tiF
  rw [mk_zero (ha.mul hb)]
  exact Int.mul_eq_zero
theorem low_mk {t b : Int} (h : 0 < b) : (Int.fdiv t (gd t b), Int.fdiv b (gd t b)) = mkF t b := by
  unfold mkF ft fb
  rw [if_neg (by omega), if_neg (by omega)]
abbrev Pq := List (Int × Fq)
def putP (d : Pq) (n : Int) (a : Fq) : Pq := if (d.any fun m => decide (m.1 = n)) = true then d.map (fun m => if m.1 = n then (m.1, a) else m) else d ++ [(n, a)]
def Gd (k : Nat) (a : Fq) : Prop := Red a /\ Fb k a
theorem Gd.mono {j k : Nat} {a : Fq} (h : Gd j a) (hk : j <= k) : Gd k a := ⟨h.1, h.2.mono hk⟩
theorem Gd.plus {j k : Nat} {a b : Fq} (ha : Gd j a) (hb : Gd k b) : Gd (j + k + 1) (plF a b) := ⟨ha.1.plus hb.1, ha.2.plus ha.1 hb.1 hb.2⟩
theorem Gd.times {j k : Nat} {a b : Fq} (ha : Gd j a) (hb : Gd k b) : Gd (j + k) (tiF a b) := ⟨ha.1.times hb.1, ha.2.times ha.1 hb.1 hb.2⟩
theorem gd_one {k : Nat} (h : 1 <= k) : Gd k (0, 1) := ⟨red_one, pow_up (j := 1) (by decide) h, pow_up (j := 1) (by decide) h⟩
theorem put_mem {d : Pq} {n : Int} {a : Fq} {m : Int × Fq} (h : m ∈ putP d n a) : m = (n, a) ∨ m ∈ d := by
  unfold putP at h
  split at h
  · obtain ⟨x, hx, e⟩ := List.mem_map.mp h
    split at e
    · rename_i q
      rw [q] at e
      exact .inl e.symm
    · exact .inr (e ▸ hx)
  · rcases List.mem_append.mp h with h | h
    · exact .inr h
    · exact .inl (by simpa using h)
theorem put_len (d : Pq) (n : Int) (a : Fq) : (putP d n a).length <= d.length + 1 := by
  unfold putP
  split
  · rw [List.length_map]; omega
  · rw [List.length_append]; simp
theorem put_nodup {d : Pq} {n : Int} {a : Fq} (h : (d.map (·.1)).Nodup) : ((putP d n a).map (·.1)).Nodup := by
  unfold putP
  split
  · rw [List.map_map]
    have e : (d.map ((·.1) ∘ fun m => if m.1 = n then (m.1, a) else m)) = d.map (·.1) := List.map_congr_left fun m _ => by
      show (if m.1 = n then (m.1, a) else m).1 = m.1
      split <;> rfl
    rw [e]
    exact h
  · rename_i q
    rw [List.map_append, List.nodup_append]
    refine ⟨h, by simp, fun x hx y hy => ?_⟩
    have hy' : y = n := by simpa using hy
    subst hy'
    intro z
    subst z
    obtain ⟨m, hm, rfl⟩ := List.mem_map.mp hx
    exact q (List.any_eq_true.mpr ⟨m, hm, by simp⟩)
theorem red_uniq {a b : Fq} (ha : Red a) (hb : Red b) (e : a.1 * b.2 = b.1 * a.2) : a = b := by
  obtain ⟨a1, a2⟩ := a
  obtain ⟨b1, b2⟩ := b
  obtain ⟨h1, g1⟩ := ha
  obtain ⟨h2, g2⟩ := hb
  simp only [gd] at h1 g1 h2 g2 e
  have g1' : Nat.gcd a2.natAbs a1.natAbs = 1 := by rw [Nat.gcd_comm]; unfold Int.gcd at g1; omega
  have g2' : Nat.gcd b2.natAbs b1.natAbs = 1 := by rw [Nat.gcd_comm]; unfold Int.gcd at g2; omega
  have e' : a1.natAbs * b2.natAbs = b1.natAbs * a2.natAbs := by rw [← Int.natAbs_mul, ← Int.natAbs_mul, e]
  have d1 : a2.natAbs ∣ b2.natAbs := Nat.Coprime.dvd_of_dvd_mul_left (k := a2.natAbs) (m := a1.natAbs) g1' ⟨b1.natAbs, by rw [e', Nat.mul_comm]⟩
  have d2 : b2.natAbs ∣ a2.natAbs := Nat.Coprime.dvd_of_dvd_mul_left (k := b2.natAbs) (m := b1.natAbs) g2' ⟨a1.natAbs, by rw [← e', Nat.mul_comm]⟩
  have q := Nat.dvd_antisymm d1 d2
  have q2 : a2 = b2 := by omega
  subst q2
  have : a1 = b1 := Int.eq_of_mul_eq_mul_right (by omega) e
  rw [this]
theorem mk_cross {t b : Int} (h : b ≠ 0) : (mkF t b).1 * b = t * (mkF t b).2 := (frac_low (t := t) h).2.1
theorem take_next {α : Type} {l : List α} {i : Nat} {x : α} (h : l[i]? = some x) : l.take (i + 1) = l.take i ++ [x] := by
  rw [List.take_succ, h]
  rfl
section
variable {P : Program} {w : World} {K : PySem.W.Frag} {mg : Str -> Option Value} {base : Heap} {f : Addr} {fd : FuncData}
def spGd : Sp := fun vs H Q _ => ∃ a b : Int, vs = [.int a, .int b] /\ 0 <= a /\ 0 <= b /\ Q (.int (gd a b)) H
theorem sc_greatest_divisor : FnScope ["one", "other", "rest"] ["one", "other"] (defScope s_greatest_divisor) := ⟨rfl, rfl, rfl, by decide +kernel, rfl, by decide +kernel, by decide +kernel⟩
theorem ok_greatest_divisor (F : Fun K "greatest_divisor" "greatest_divisor" s_greatest_divisor f fd) : FnOk P w K mg base CX0 1 f fd ["one", "other"] spGd := by
  refine F.ok sc_greatest_divisor (fun vs H Q E h => ?_) (fun cdv A outer s H vs Q E hr h => ?_)
  · obtain ⟨a, b, rfl, _⟩ := h
    rfl
  obtain ⟨a, b, rfl, ha, hb, q⟩ := h
  have nd := sc_greatest_divisor.nd
  refine ⟨_, pss_cons (ps_while PassesOwn.never (pt_cmpR op_ne (pv 1) pe_int (nomark _))
      (pss_cons (ps_set (i := 2) nd rfl (Or.inl rfl) (pe_op op_modN (pv 0) (pv 1)))
      (pss_cons (ps_set (i := 0) nd rfl (Or.inl rfl) (pv 1)) (pss_one (ps_set (i := 1) nd rfl (Or.inl rfl) (pv 2))))))
    (pss_one (ps_ret (pv 0))), ?_⟩
  refine ⟨fun m σ H' => H' = H /\ ∃ (x y : Int) (z : Option V), σ = [some (.int x), some (.int y), z] /\ 0 <= x /\ 0 <= y /\ gd x y = gd a b /\ m = y.toNat, ⟨b.toNat, rfl, a, b, none, rfl, ha, hb, rfl, rfl⟩, ?_⟩
  rintro m σ H' ⟨rfl, x, y, z, rfl, hx, hy, eg, rfl⟩
  refine ⟨_, rfl, rfl, _, rfl, ?_⟩
  by_cases h0 : y = 0
  · subst h0
    refine iteN (neN rfl) ?_
    refine ⟨_, rfl, ?_⟩
    rw [gd_zero hx] at eg
    rw [eg]
    exact q
  · refine iteY (neY h0) ?_
    refine ⟨fun σ' H2 => H2 = H' /\ σ' = [some (.int y), some (.int (x.fmod y)), some (.int (x.fmod y))], ?_, ?_⟩
    · rintro σ' H2 ⟨rfl, rfl⟩
      have yp : 0 < y := by omega
      have m1 := Int.fmod_nonneg_of_pos x yp
      have m2 := Int.fmod_lt_of_pos x yp
      exact ⟨(x.fmod y).toNat, by omega, rfl, y, x.fmod y, _, rfl, hy, m1, by rw [gd_step hx yp]; exact eg, rfl⟩
    · exact ⟨_, rfl, _, rfl, x, y, rfl, rfl, h0, _, rfl, _, rfl, rfl, rfl⟩
def spFracP (C : Addr) : Sp := fun vs H Q E => ∃ t b : Int, vs = [.int t, .int b] /\ 0 <= b /\ b.natAbs < BIG /\ (b = 0 -> E (.ref C) none H) /\ (0 < b -> ∀ p, H p = none -> Q (.ref p) (upd H p (.tup [.int (Int.fdiv t (gd t b)), .int (Int.fdiv b (gd t b))])))
def spFrac (C : Addr) : Sp := fun vs H Q E => ∃ t b : Int, vs = [.int t, .int b] /\ b.natAbs < BIG /\ (b = 0 -> E (.ref C) none H) /\ (b ≠ 0 -> ∀ p, H p = none -> Q (.ref p) (upd H p (.tup [.int (ft t b), .int (fb t b)])))
theorem sc_fraction : FnScope ["top", "bottom", "divisor"] ["top", "bottom"] (defScope s_fraction) := ⟨rfl, rfl, rfl, by decide +kernel, rfl, by decide +kernel, by decide +kernel⟩
theorem ok_fractionP {fg C : Addr} {dg : FuncData} {dV : Value} (F : FunD K "fraction" "fraction" s_fraction dV f fd) (B : Blt mg) (G : DefAt K mg "greatest_divisor" s_greatest_divisor fg dg ["one", "other"]) (X : BadF K mg C) :
    FnOk P w K mg base (CXF P w) 2 f fd ["top", "bottom"] (spFracP C) := by
  have OG : FnOk P w K mg base (CXF P w) 1 fg dg ["one", "other"] spGd := (ok_greatest_divisor G.F).cxf _
  refine F.okX sc_fraction (fun vs H Q E h => ?_) (fun cdv A outer s H vs Q E hr h => ?_)
  · obtain ⟨t, b, rfl, _⟩ := h
    rfl
  obtain ⟨t, b, rfl, hb, hz, h0, h1⟩ := h
  have nd := sc_fraction.nd
  refine ⟨_, pss_cons (ps_if (pt_cmpR op_eq (pv 1) pe_int (nomark _)) (pss_one (ps_raise rfl raises_fn X.e rfl X.m (pa_cons pe_str pa_nil))) pss_nil)
    (pss_cons (ps_if (pt_cmpR op_lt (pv 1) pe_int (nomark _)) pss_never pss_nil)
    (pss_cons (ps_set (i := 2) nd rfl (Or.inl rfl) (pe_callS OG hr rfl G.m G.F.kp G.b .nil passes_fn (pa_cons (pe_callB call_abs rfl B.abs bt_abs (pa_cons (pv 0) pa_nil)) (pa_cons (pv 1) pa_nil))))
    (pss_one (ps_ret (pe_tup (pa_cons (pe_op op_fdivB (pv 0) (pv 2)) (pa_cons (pe_op op_fdivB (pv 1) (pv 2)) pa_nil))))))), ?_⟩
  refine ⟨_, rfl, rfl, _, rfl, ?_⟩
  by_cases z : b = 0
  · subst z
    refine iteT ?_
    exact ⟨by show 1 <= sizeLine; decide, h0 rfl⟩
  · refine iteN (eqN z) ?_
    refine ⟨_, rfl, _, _, rfl, rfl, _, rfl, ?_⟩
    refine iteN (decide_eq_false (by omega)) ?_
    have bp : 0 < b := by omega
    refine ⟨_, rfl, t, rfl, _, rfl, _, b, rfl, abs_nonneg t, hb, ?_⟩
    rw [gd_abs]
    have g0 := gd_pos (a := t) bp
    have gl := gd_log (t := t) bp hz
    refine ⟨_, rfl, _, rfl, t, _, rfl, rfl, ⟨by omega, gl⟩, _, rfl, _, rfl, b, _, rfl, rfl, ⟨by omega, gl⟩, (by show 2 <= sizeLine; decide), fun p hp => h1 bp p hp⟩
theorem ok_fraction {fg C : Addr} {dg : FuncData} {dV : Value} {ds : List Value} (D : DefD K mg "fraction" s_fraction dV f fd ["top", "bottom"] ds) (B : Blt mg) (G : DefAt K mg "greatest_divisor" s_greatest_divisor fg dg ["one", "other"]) (X : BadF K mg C) :
    FnOk P w K mg base (CXF P w) 3 f fd ["top", "bottom"] (spFrac C) := by
  have OG : FnOk P w K mg base (CXF P w) 2 fg dg ["one", "other"] spGd := ((ok_greatest_divisor G.F).cxf _).mono (by decide)
  have OP : FnOk P w K mg base (CXF P w) 2 f fd ["top", "bottom"] (spFracP C) := ok_fractionP D.F B G X
  refine D.F.okX sc_fraction (fun vs H Q E h => ?_) (fun cdv A outer s H vs Q E hr h => ?_)
  · obtain ⟨t, b, rfl, _⟩ := h
    rfl
  obtain ⟨t, b, rfl, hz, h0, h1⟩ := h
  have nd := sc_fraction.nd
  refine ⟨_, pss_cons (ps_if (pt_cmpR op_eq (pv 1) pe_int (nomark _)) (pss_one (ps_raise rfl raises_fn X.e rfl X.m (pa_cons pe_str pa_nil))) pss_nil)
    (pss_cons (ps_if (pt_cmpR op_lt (pv 1) pe_int (nomark _)) (pss_one (ps_ret (pe_callS OP hr rfl D.m D.F.kp D.b .nil passes_fn (pa_cons (pe_un un_neg (pv 0)) (pa_cons (pe_un un_neg (pv 1)) pa_nil))))) pss_nil)
    (pss_cons (ps_set (i := 2) nd rfl (Or.inl rfl) (pe_callS OG hr rfl G.m G.F.kp G.b .nil passes_fn (pa_cons (pe_callB call_abs rfl B.abs bt_abs (pa_cons (pv 0) pa_nil)) (pa_cons (pv 1) pa_nil))))
    (pss_one (ps_ret (pe_tup (pa_cons (pe_op op_fdivB (pv 0) (pv 2)) (pa_cons (pe_op op_fdivB (pv 1) (pv 2)) pa_nil))))))), ?_⟩
  refine ⟨_, rfl, rfl, _, rfl, ?_⟩
  by_cases z : b = 0
  · subst z
    refine iteT ?_
    exact ⟨by show 1 <= sizeLine; decide, h0 rfl⟩
  · refine iteN (eqN z) ?_
    refine ⟨_, rfl, _, _, rfl, rfl, _, rfl, ?_⟩
    have h1' := h1 z
    unfold ft fb at h1'
    by_cases n : b < 0
    · rw [if_pos n, if_pos n] at h1'
      refine iteY (decide_eq_true n) ?_
      exact ⟨_, rfl, t, rfl, _, rfl, b, rfl, -t, -b, rfl, by omega, by omega, fun q => by omega, fun _ => h1'⟩
    · rw [if_neg n, if_neg n] at h1'
      refine iteN (decide_eq_false n) ?_
      have bp : 0 < b := by omega
      refine ⟨_, rfl, t, rfl, _, rfl, _, b, rfl, abs_nonneg t, by omega, ?_⟩
      rw [gd_abs]
      have g0 := gd_pos (a := t) bp
      have gl := gd_log (t := t) bp hz
      refine ⟨_, rfl, _, rfl, t, _, rfl, rfl, ⟨by omega, gl⟩, _, rfl, _, rfl, b, _, rfl, rfl, ⟨by omega, gl⟩, (by show 2 <= sizeLine; decide), fun p hp => h1' p hp⟩
end
structure AllD (K : PySem.W.Frag) (mg : Str -> Option Value) where
  f_greatest_divisor : Addr
  d_greatest_divisor : FuncData
  D_greatest_divisor : DefAt K mg "greatest_divisor" s_greatest_divisor f_greatest_divisor d_greatest_divisor ["one", "other"]
  f_fraction : Addr
  d_fraction : FuncData
  v_fraction : Value
  z_fraction : List Value
  D_fraction : DefD K mg "fraction" s_fraction v_fraction f_fraction d_fraction ["top", "bottom"] z_fraction
  f_plus : Addr
  d_plus : FuncData
  D_plus : DefAt K mg "plus" s_plus f_plus d_plus ["one", "other"]
  f_minus : Addr
  d_minus : FuncData
  D_minus : DefAt K mg "minus" s_minus f_minus d_minus ["one", "other"]
  f_times : Addr
  d_times : FuncData
  D_times : DefAt K mg "times" s_times f_times d_times ["one", "other"]
  f_less : Addr
  d_less : FuncData
  D_less : DefAt K mg "less" s_less f_less d_less ["one", "other"]
  f_sign : Addr
  d_sign : FuncData
  D_sign : DefAt K mg "sign" s_sign f_sign d_sign ["one"]
  f_plain : Addr
  d_plain : FuncData
  D_plain : DefAt K mg "plain" s_plain f_plain d_plain ["one"]
  f_pairs_of : Addr
  d_pairs_of : FuncData
  D_pairs_of : DefAt K mg "pairs_of" s_pairs_of f_pairs_of d_pairs_of ["parts"]
  f_added : Addr
  d_added : FuncData
  D_added : DefAt K mg "added" s_added f_added d_added ["one", "other"]
  f_scaled : Addr
  d_scaled : FuncData
  D_scaled : DefAt K mg "scaled" s_scaled f_scaled d_scaled ["one", "part"]
  f_worth : Addr
  d_worth : FuncData
  D_worth : DefAt K mg "worth" s_worth f_worth d_worth ["one", "values"]
  f_turned : Addr
  d_turned : FuncData
  D_turned : DefAt K mg "turned" s_turned f_turned d_turned ["plan"]
  f_floor : Addr
  d_floor : FuncData
  D_floor : DefAt K mg "floor" s_floor f_floor d_floor ["plan", "pairs", "prices"]
  f_leads_on : Addr
  d_leads_on : FuncData
  D_leads_on : DefAt K mg "leads_on" s_leads_on f_leads_on d_leads_on ["plan", "way"]
  f_pairs_at : Addr
  d_pairs_at : FuncData
  D_pairs_at : DefAt K mg "pairs_at" s_pairs_at f_pairs_at d_pairs_at ["pairs", "values"]
  f_stands : Addr
  d_stands : FuncData
  D_stands : DefAt K mg "stands" s_stands f_stands d_stands ["left", "mark", "bound"]
  f_goes_with : Addr
  d_goes_with : FuncData
  D_goes_with : DefAt K mg "goes_with" s_goes_with f_goes_with d_goes_with ["price_sign", "mark"]
  f_end_for : Addr
  d_end_for : FuncData
  D_end_for : DefAt K mg "end_for" s_end_for f_end_for d_end_for ["unknown", "part"]
  f_l_at : Addr
  d_l_at : FuncData
  D_l_at : DefAt K mg "_law_at" s_l_at f_l_at d_l_at ["_law_script", "_law_k"]
  f_l_mixed : Addr
  d_l_mixed : FuncData
  D_l_mixed : DefAt K mg "_law_mixed" s_l_mixed f_l_mixed d_l_mixed ["_law_cell", "_law_k"]
  f_l_lowest : Addr
  d_l_lowest : FuncData
  D_l_lowest : DefAt K mg "_law_lowest" s_l_lowest f_l_lowest d_l_lowest ["_law_top", "_law_bottom"]
  f_l_fraction : Addr
  d_l_fraction : FuncData
  D_l_fraction : DefAt K mg "_law_fraction" s_l_fraction f_l_fraction d_l_fraction ["_law_number"]
  f_l_plus : Addr
  d_l_plus : FuncData
  D_l_plus : DefAt K mg "_law_plus" s_l_plus f_l_plus d_l_plus ["_law_one", "_law_other"]
  f_l_times : Addr
  d_l_times : FuncData
  D_l_times : DefAt K mg "_law_times" s_l_times f_l_times d_l_times ["_law_one", "_law_other"]
  f_l_order : Addr
  d_l_order : FuncData
  D_l_order : DefAt K mg "_law_order" s_l_order f_l_order d_l_order ["_law_one", "_law_other"]
  f_l_is_fraction : Addr
  d_l_is_fraction : FuncData
  D_l_is_fraction : DefAt K mg "_law_is_fraction" s_l_is_fraction f_l_is_fraction d_l_is_fraction ["_law_found"]
  f_l_same : Addr
  d_l_same : FuncData
  D_l_same : DefAt K mg "_law_same" s_l_same f_l_same d_l_same ["_law_found", "_law_due"]
  f_l_worth : Addr
  d_l_worth : FuncData
  D_l_worth : DefAt K mg "_law_worth" s_l_worth f_l_worth d_l_worth ["_law_constant", "_law_pairs_here", "_law_values"]
  f_l_unknown : Addr
  d_l_unknown : FuncData
  D_l_unknown : DefAt K mg "_law_unknown" s_l_unknown f_l_unknown d_l_unknown ["_law_number", "_law_k"]
  f_l_pairs : Addr
  d_l_pairs : FuncData
  D_l_pairs : DefAt K mg "_law_pairs" s_l_pairs f_l_pairs d_l_pairs ["_law_cell", "_law_many"]
  f_l_stands : Addr
  d_l_stands : FuncData
  D_l_stands : DefAt K mg "_law_stands" s_l_stands f_l_stands d_l_stands ["_law_left", "_law_mark", "_law_bound"]
  f_l_turned : Addr
  d_l_turned : FuncData
  D_l_turned : DefAt K mg "_law_turned" s_l_turned f_l_turned d_l_turned ["_law_plan"]
  f_l_floor : Addr
  d_l_floor : FuncData
  D_l_floor : DefAt K mg "_law_floor" s_l_floor f_l_floor d_l_floor ["_law_plan", "_law_pairs_here", "_law_prices"]
  f_l_leads_on : Addr
  d_l_leads_on : FuncData
  D_l_leads_on : DefAt K mg "_law_leads_on" s_l_leads_on f_l_leads_on d_l_leads_on ["_law_plan", "_law_way"]
  f_l_step : Addr
  d_l_step : FuncData
  D_l_step : DefAt K mg "_law_step" s_l_step f_l_step d_l_step ["_law_unknown_here", "_law_number"]
  f_l_row : Addr
  d_l_row : FuncData
  D_l_row : DefAt K mg "_law_row" s_l_row f_l_row d_l_row ["_law_cell", "_law_k", "_law_way"]
  f_l_price : Addr
  d_l_price : FuncData
  D_l_price : DefAt K mg "_law_price" s_l_price f_l_price d_l_price ["_law_row_here", "_law_number"]
  f_l_goal : Addr
  d_l_goal : FuncData
  D_l_goal : DefAt K mg "_law_goal" s_l_goal f_l_goal d_l_goal ["_law_cell", "_law_way"]
  f_l_floor_good : Addr
  d_l_floor_good : FuncData
  D_l_floor_good : DefAt K mg "_law_floor_good" s_l_floor_good f_l_floor_good d_l_floor_good ["_law_plan", "_law_pairs_here", "_law_prices"]
  f_l_alike : Addr
  d_l_alike : FuncData
  D_l_alike : DefAt K mg "_law_alike" s_l_alike f_l_alike d_l_alike ["_law_plan", "_law_number"]
  f_law : Addr
  d_law : FuncData
  D_law : DefAt K mg "law" s_law f_law d_law ["_law_script"]
  a_NOUGHT : Addr
  m_NOUGHT : mg "NOUGHT" = some (.ref a_NOUGHT)
  r_NOUGHT : ∀ G, Rep K G (.tup [.int 0, .int 1]) (.ref a_NOUGHT)
  c_BadFraction : Addr
  x_BadFraction : BadF K mg c_BadFraction
def encF (a : Fq) : Tv := .tup [.int a.1, .int a.2]
def C_fraction : Ct := fun ts P => ∃ t b, ts = [.int t, .int b] /\ b.natAbs < BIG /\ b ≠ 0 /\ P (.ok (.va (encF (mkF t b))))
theorem ok_fractionV {P : Program} {w : World} {K : PySem.W.Frag} {mg : Str -> Option Value} {base : Heap} (A : AllD K mg) (B : Blt mg) : FnOk P w K mg base (CXF P w) 3 A.f_fraction A.d_fraction ["top", "bottom"] (spV K C_fraction) :=
  (ok_fraction A.D_fraction B A.D_greatest_divisor A.x_BadFraction).imp fun vs H Q E ⟨p, ts, P, u, h2, r, ⟨t, b, e, hb, h0, h1⟩, hok, her⟩ => by
    subst e
    obtain ⟨x, y, rfl, r1, r2⟩ := two_of r
    rw [rep_int.mp r1, rep_int.mp r2]
    refine ⟨t, b, rfl, hb, fun z => absurd z h0, fun z a n => ?_⟩
    have s0 : Same (p 0) (upd (p 0) a (.tup [.int (ft t b), .int (fb t b)])) := fun c o' e => by rw [upd_ne (ne_of_none e (u.fresh n 0))]; exact e
    refine hok _ h1 _ _ _ (grow0 s0) (u.alloc n 0 _) (fun j hj => by rw [pset_ne (by omega)]; exact h2 j (by omega)) ⟨by rw [pset_ne (by decide)]; exact h2 2 (by decide), _, rfl, ?_⟩
    rw [pset_at]
    exact rep_tup.mpr ⟨a, _, rfl, SqN.of upd_same, .cons (rep_int.mpr rfl) (.cons (rep_int.mpr rfl) .nil)⟩
theorem lt_BMi {n k : Nat} (h : n < 2 ^ k) (hk : k <= 100000) : n < BM := lt_BM h (Nat.le_trans hk (by decide))
theorem Fb.m1 {k : Nat} {a : Fq} (h : Fb k a) (hk : k <= 100000) : a.1.natAbs < BM := lt_BMi h.1 hk
theorem Fb.m2 {k : Nat} {a : Fq} (h : Fb k a) (hk : k <= 100000) : a.2.natAbs < BM := lt_BMi h.2 hk
def mnF (a b : Fq) : Fq := mkF (a.1 * b.2 - b.1 * a.2) (a.2 * b.2)
def C_bin (f : Fq -> Fq -> Fq) : Ct := fun ts P => ∃ a b j k, ts = [encF a, encF b] /\ Gd j a /\ Gd k b /\ j + k <= 7000 /\ P (.ok (.va (encF (f a b))))
theorem bin_len {f : Fq -> Fq -> Fq} : ∀ ts Q, C_bin f ts Q -> ts.length = 2 := fun ts Q ⟨_, _, _, _, e, _⟩ => by rw [e]; rfl
theorem Gd.m {k : Nat} {a : Fq} (h : Gd k a) (hk : k <= 100000) : a.1.natAbs < BM /\ a.2.natAbs < BM := ⟨h.2.m1 hk, h.2.m2 hk⟩
def qv (a : Fq) : Rat := (a.1 : Rat) / (a.2 : Rat)
theorem icast_pos {x : Int} (h : 0 < x) : (0 : Rat) < (x : Rat) := by exact_mod_cast h
theorem icast_ne {x : Int} (h : x ≠ 0) : (x : Rat) ≠ 0 := by exact_mod_cast h
theorem div_lt_iff' {a b c d : Rat} (hb : 0 < b) (hd : 0 < d) : a / b < c / d ↔ a * d < c * b := by
  have hbd : 0 < b * d := Rat.mul_pos hb hd
  have b0 : b ≠ 0 := fun z => by rw [z] at hb; exact absurd hb (by decide)
  have d0 : d ≠ 0 := fun z => by rw [z] at hd; exact absurd hd (by decide)
  have e1 : a * d = (a / b) * (b * d) := by grind
  have e2 : c * b = (c / d) * (b * d) := by grind
  rw [e1, e2]
  exact (Rat.mul_lt_mul_right hbd).symm
theorem qv_lt {a b : Fq} (ha : 0 < a.2) (hb : 0 < b.2) : qv a < qv b ↔ a.1 * b.2 < b.1 * a.2 := by
  unfold qv
  rw [div_lt_iff' (icast_pos ha) (icast_pos hb)]
  constructor
  · intro h; exact_mod_cast h
  · intro h; exact_mod_cast h
theorem qv_le {a b : Fq} (ha : 0 < a.2) (hb : 0 < b.2) : qv a <= qv b ↔ a.1 * b.2 <= b.1 * a.2 := by
  have := qv_lt hb ha
  rw [← Rat.not_lt, ← Int.not_lt, this]
theorem qv_eq {a b : Fq} (ha : 0 < a.2) (hb : 0 < b.2) : qv a = qv b ↔ a.1 * b.2 = b.1 * a.2 := by
  have h1 := qv_le ha hb
  have h2 := qv_le hb ha
  constructor
  · intro e
    have a1 := h1.mp (by rw [e]; exact Rat.le_refl)
    have a2 := h2.mp (by rw [e]; exact Rat.le_refl)
    omega
  · intro e
    exact Rat.le_antisymm (h1.mpr (by omega)) (h2.mpr (by omega))
theorem qv_zero {a : Fq} (ha : 0 < a.2) : qv a = 0 ↔ a.1 = 0 := by
  have : qv (0, 1) = 0 := by unfold qv; grind
  rw [← this, qv_eq ha (by decide)]
  constructor
  · intro e; simpa using e
  · intro e; rw [e]; simp
theorem qv_pos {a : Fq} (ha : 0 < a.2) : 0 < qv a ↔ 0 < a.1 := by
  have : qv (0, 1) = 0 := by unfold qv; grind
  rw [← this, qv_lt (by decide) ha]
  simp
theorem qv_neg {a : Fq} (ha : 0 < a.2) : qv a < 0 ↔ a.1 < 0 := by
  have : qv (0, 1) = 0 := by unfold qv; grind
  rw [← this, qv_lt ha (by decide)]
  simp
theorem qv_one : qv (0, 1) = 0 := by unfold qv; grind
theorem Red.pos {a : Fq} (h : Red a) : 0 < a.2 := Int.lt_of_lt_of_le (by decide) h.1
theorem qv_mk {t b : Int} (h : b ≠ 0) : qv (mkF t b) = (t : Rat) / (b : Rat) := by
  have r := mk_red (t := t) h
  have c := mk_cross (t := t) h
  have h1 : ((mkF t b).1 : Rat) * (b : Rat) = (t : Rat) * ((mkF t b).2 : Rat) := by exact_mod_cast c
  have h2 := icast_ne h
  have h3 := icast_ne (show (mkF t b).2 ≠ 0 by have := r.pos; omega)
  unfold qv
  grind
theorem qv_pl {a b : Fq} (ha : Red a) (hb : Red b) : qv (plF a b) = qv a + qv b := by
  unfold plF
  rw [qv_mk (ha.mul hb)]
  have h2 := icast_ne (show a.2 ≠ 0 by have := ha.pos; omega)
  have h3 := icast_ne (show b.2 ≠ 0 by have := hb.pos; omega)
  unfold qv
  have e1 : ((a.1 * b.2 + b.1 * a.2 : Int) : Rat) = a.1 * b.2 + b.1 * a.2 := by grind
  have e2 : ((a.2 * b.2 : Int) : Rat) = a.2 * b.2 := by grind
  rw [e1, e2]
  grind
theorem qv_ti {a b : Fq} (ha : Red a) (hb : Red b) : qv (tiF a b) = qv a * qv b := by
  unfold tiF
  rw [qv_mk (ha.mul hb)]
  have h2 := icast_ne (show a.2 ≠ 0 by have := ha.pos; omega)
  have h3 := icast_ne (show b.2 ≠ 0 by have := hb.pos; omega)
  unfold qv
  have e1 : ((a.1 * b.1 : Int) : Rat) = a.1 * b.1 := by grind
  have e2 : ((a.2 * b.2 : Int) : Rat) = a.2 * b.2 := by grind
  rw [e1, e2]
  grind
def rPl (a b : Fq) : Fq := (a.1 * b.2 + b.1 * a.2, a.2 * b.2)
def rTi (a b : Fq) : Fq := (a.1 * b.1, a.2 * b.2)
theorem qv_rpl {a b : Fq} (ha : 0 < a.2) (hb : 0 < b.2) : qv (rPl a b) = qv a + qv b := by
  have h2 := icast_ne (show a.2 ≠ 0 by omega)
  have h3 := icast_ne (show b.2 ≠ 0 by omega)
  unfold qv rPl
  have e1 : ((a.1 * b.2 + b.1 * a.2 : Int) : Rat) = a.1 * b.2 + b.1 * a.2 := by grind
  have e2 : ((a.2 * b.2 : Int) : Rat) = a.2 * b.2 := by grind
  dsimp only
  rw [e1, e2]
  grind
theorem qv_rti {a b : Fq} (ha : 0 < a.2) (hb : 0 < b.2) : qv (rTi a b) = qv a * qv b := by
  have h2 := icast_ne (show a.2 ≠ 0 by omega)
  have h3 := icast_ne (show b.2 ≠ 0 by omega)
  unfold qv rTi
  have e1 : ((a.1 * b.1 : Int) : Rat) = a.1 * b.1 := by grind
  have e2 : ((a.2 * b.2 : Int) : Rat) = a.2 * b.2 := by grind
  dsimp only
  rw [e1, e2]
  grind
theorem red_qv {a b : Fq} (ha : Red a) (hb : Red b) (e : qv a = qv b) : a = b := red_uniq ha hb ((qv_eq ha.pos hb.pos).mp e)
theorem qv_mn {a b : Fq} (ha : Red a) (hb : Red b) : qv (mnF a b) = qv a - qv b := by
  unfold mnF
  rw [qv_mk (ha.mul hb)]
  have h2 := icast_ne (show a.2 ≠ 0 by have := ha.pos; omega)
  have h3 := icast_ne (show b.2 ≠ 0 by have := hb.pos; omega)
  unfold qv
  have e1 : ((a.1 * b.2 - b.1 * a.2 : Int) : Rat) = a.1 * b.2 - b.1 * a.2 := by grind
  have e2 : ((a.2 * b.2 : Int) : Rat) = a.2 * b.2 := by grind
  rw [e1, e2]
  grind
theorem Fb.top' {a b : Fq} {j k : Nat} (fa : Fb j a) (fb : Fb k b) : (a.1 * b.2 - b.1 * a.2).natAbs < 2 ^ (j + k + 1) := by
  have := add_lt (mul_lt fa.1 fb.2) (show (-(b.1 * a.2)).natAbs < 2 ^ (j + k) by rw [Int.natAbs_neg, Nat.add_comm j k]; exact mul_lt fb.1 fa.2)
  rw [Int.sub_eq_add_neg]; exact this
theorem Gd.mn {j k : Nat} {a b : Fq} (ha : Gd j a) (hb : Gd k b) : Gd (j + k + 1) (mnF a b) := ⟨mk_red (ha.1.mul hb.1), Nat.lt_of_le_of_lt (ft_abs (ha.1.mul hb.1)) (ha.2.top' hb.2), Nat.lt_of_le_of_lt (fb_abs (ha.1.mul hb.1)) (pow_up (ha.2.bot hb.2) (Nat.le_succ _))⟩
theorem mk_gd {t b : Int} {k : Nat} (h : 0 < b) (ht : t.natAbs < 2 ^ k) (hb : b.natAbs < 2 ^ k) : Gd k (mkF t b) := ⟨mk_red (by omega), Nat.lt_of_le_of_lt (ft_abs (by omega)) ht, Nat.lt_of_le_of_lt (fb_abs (by omega)) hb⟩
theorem rPl_fb {j k : Nat} {a b : Fq} (ha : Fb j a) (hb : Fb k b) : Fb (j + k + 1) (rPl a b) := ⟨ha.top hb, pow_up (ha.bot hb) (Nat.le_succ _)⟩
theorem rTi_fb {j k : Nat} {a b : Fq} (ha : Fb j a) (hb : Fb k b) : Fb (j + k) (rTi a b) := ⟨mul_lt ha.1 hb.1, mul_lt ha.2 hb.2⟩
structure Un where
  lab : Str
  whole : Bool
  lo : Option Fq
  hi : Option Fq
structure Rw where
  nm : Str
  ps : Pq
  mark : Str
  bd : Fq
structure Pln where
  us : List Un
  rs : List Rw
  way : Str
  gp : Pq
  gc : Fq
def encO : Option Fq -> Tv
  | none => .non
  | some a => encF a
def encP (ps : Pq) : Tv := .tup (ps.map fun m => .tup [.int m.1, encF m.2])
def encU (u : Un) : Tv := .tup [.str u.lab, .bl u.whole, encO u.lo, encO u.hi]
def encR (r : Rw) : Tv := .tup [.str r.nm, encP r.ps, .str r.mark, encF r.bd]
def encPl (p : Pln) : Tv := .tup [.tup (p.us.map encU), .tup (p.rs.map encR), .tup [.str p.way, encP p.gp, encF p.gc]]
def encVs (vals : List Fq) : List Tv := vals.map encF
def GdO (k : Nat) (o : Option Fq) : Prop := ∀ a, o = some a -> Gd k a
structure PsOk (n k : Nat) (ps : Pq) : Prop where
  it : ∀ m ∈ ps, Gd k m.2 /\ 0 <= m.1 /\ m.1 < n
  l : ps.length <= n
abbrev isMark (m : Str) : Prop := m = "<=" ∨ m = ">=" ∨ m = "="
abbrev isWay (m : Str) : Prop := m = "least" ∨ m = "most"
structure RwOk (n : Nat) (r : Rw) : Prop where
  ps : PsOk n 31 r.ps
  mr : isMark r.mark
  bd : Gd 1500 r.bd
structure PlOk (n : Nat) (p : Pln) : Prop where
  us : ∀ u ∈ p.us, GdO 60 u.lo /\ GdO 60 u.hi
  ul : p.us.length = n
  rs : ∀ r ∈ p.rs, RwOk n r
  rl : p.rs.length <= 5
  gp : PsOk n 31 p.gp
  gc : Gd 31 p.gc
  wy : isWay p.way
  n4 : n <= 4
def valAt (vals : List Fq) (i : Int) : Fq := vals.getD i.toNat (0, 1)
def wrtF (vals : List Fq) : Fq -> Pq -> Fq
  | c, [] => c
  | c, m :: ms => wrtF vals (plF c (tiF m.2 (valAt vals m.1))) ms
def dotQ (vals : List Fq) : Pq -> Rat
  | [] => 0
  | m :: ms => qv m.2 * qv (valAt vals m.1) + dotQ vals ms
theorem valAt_mem {vals : List Fq} {i : Int} (h0 : 0 <= i) (h1 : i < vals.length) : valAt vals i ∈ vals := by
  unfold valAt
  have h : i.toNat < vals.length := by omega
  rw [show vals.getD i.toNat (0, 1) = vals[i.toNat] by simp [h]]
  exact List.getElem_mem h
theorem enc_at {vals : List Fq} {i : Int} (h0 : 0 <= i) (h1 : i < vals.length) : (encVs vals)[i.toNat]? = some (encF (valAt vals i)) := by
  have h : i.toNat < vals.length := by omega
  unfold encVs valAt
  rw [List.getElem?_map, List.getElem?_eq_getElem h, show vals.getD i.toNat (0, 1) = vals[i.toNat] by simp [h]]
  rfl
theorem wrt_ok {vals : List Fq} {kp kv : Nat} (gv : ∀ x ∈ vals, Gd kv x) : ∀ (ms : Pq) (c : Fq) (j : Nat), (∀ m ∈ ms, Gd kp m.2 /\ 0 <= m.1 /\ m.1 < vals.length) -> Gd j c -> Gd (j + (kp + kv + 1) * ms.length) (wrtF vals c ms) /\ qv (wrtF vals c ms) = qv c + dotQ vals ms
  | [], c, j, _, hc => ⟨hc, by show qv c = qv c + 0; grind⟩
  | m :: ms, c, j, h, hc => by
    obtain ⟨g1, h0, h1⟩ := h m List.mem_cons_self
    have g2 := gv _ (valAt_mem h0 h1)
    have g3 := g1.times g2
    obtain ⟨a, b⟩ := wrt_ok gv ms (plF c (tiF m.2 (valAt vals m.1))) (j + (kp + kv + 1)) (fun x hx => h x (List.mem_cons_of_mem _ hx)) ((hc.plus g3).mono (by omega))
    refine ⟨a.mono (by rw [List.length_cons, Nat.mul_succ]; omega), ?_⟩
    show qv (wrtF vals (plF c (tiF m.2 (valAt vals m.1))) ms) = qv c + (qv m.2 * qv (valAt vals m.1) + dotQ vals ms)
    rw [b, qv_pl hc.1 g3.1, qv_ti g1.1 g2.1]
    grind
def lwF (vals : List Fq) : Fq -> Pq -> Fq
  | c, [] => c
  | c, m :: ms => lwF vals (rPl c (rTi m.2 (valAt vals m.1))) ms
theorem lw_ok {vals : List Fq} {kp kv : Nat} (gv : ∀ x ∈ vals, Gd kv x) : ∀ (ms : Pq) (c : Fq) (j : Nat), (∀ m ∈ ms, Gd kp m.2 /\ 0 <= m.1 /\ m.1 < vals.length) -> Fb j c -> 0 < c.2 -> Fb (j + (kp + kv + 1) * ms.length) (lwF vals c ms) /\ 0 < (lwF vals c ms).2 /\ qv (lwF vals c ms) = qv c + dotQ vals ms
  | [], c, j, _, hc, h0 => ⟨hc, h0, by show qv c = qv c + 0; grind⟩
  | m :: ms, c, j, h, hc, p => by
    obtain ⟨g1, h0, h1⟩ := h m List.mem_cons_self
    have g2 := gv _ (valAt_mem h0 h1)
    have p3 : 0 < (rTi m.2 (valAt vals m.1)).2 := Int.mul_pos g1.1.pos g2.1.pos
    have p4 : 0 < (rPl c (rTi m.2 (valAt vals m.1))).2 := Int.mul_pos p p3
    obtain ⟨a, b, d⟩ := lw_ok gv ms (rPl c (rTi m.2 (valAt vals m.1))) (j + (kp + kv + 1)) (fun x hx => h x (List.mem_cons_of_mem _ hx)) ((rPl_fb hc (rTi_fb g1.2 g2.2)).mono (by omega)) p4
    refine ⟨a.mono (by rw [List.length_cons, Nat.mul_succ]; omega), b, ?_⟩
    show qv (lwF vals (rPl c (rTi m.2 (valAt vals m.1))) ms) = qv c + (qv m.2 * qv (valAt vals m.1) + dotQ vals ms)
    rw [d, qv_rpl p p3, qv_rti g1.1.pos g2.1.pos]
    grind
def stQ (l : Rat) (m : Str) (b : Rat) : Bool := if m = "<=" then !decide (b < l) else if m = ">=" then !decide (l < b) else decide (l = b)
end Pw
set_option Elab.async false
set_option linter.all false
set_option maxRecDepth 100000
set_option maxHeartbeats 4000000
namespace Pw
open PySem L2
seal PE PT PW PA PS PSs PG PGs PI PIf PO
section
variable {P : Program} {w : World} {K : PySem.W.Frag} {mg : Str -> Option Value} {base : Heap} {f : Addr} {fd : FuncData}
def b_plus : Sv :=
  vRet (vCall C_fraction [vOp wAdd (vOp wMul (vOp wIx (vVar 0) (vC (.int 0))) (vOp wIx (vVar 1) (vC (.int 1)))) (vOp wMul (vOp wIx (vVar 1) (vC (.int 0))) (vOp wIx (vVar 0) (vC (.int 1)))), vOp wMul (vOp wIx (vVar 0) (vC (.int 1))) (vOp wIx (vVar 1) (vC (.int 1)))])
theorem sc_plus : FnScope ["one", "other"] ["one", "other"] (defScope s_plus) := ⟨rfl, rfl, rfl, by decide +kernel, rfl, by decide +kernel, by decide +kernel⟩
theorem lk_plus_one : Lk s_plus "one" .local := by decide +kernel
theorem lk_plus_other : Lk s_plus "other" .local := by decide +kernel
theorem lk_plus_fraction : Lk s_plus "fraction" .globalImplicit := by decide +kernel
theorem len_plus : ∀ ts Q, C_bin plF ts Q -> ts.length = 2 := bin_len
theorem nice_plus : ∀ ts Q, C_bin plF ts Q -> bodyC 2 b_plus ts Q := by
  rintro _ Q ⟨a, b, j, k, rfl, ga, gb, h, q⟩
  have xa := ga.m (show j <= 100000 by omega)
  have xb := gb.m (show k <= 100000 by omega)
  exact ⟨⟨xa.1, xb.2⟩, ⟨xb.1, xa.2⟩, ⟨xa.2, xb.2⟩, _, _, rfl, lt_big (ga.2.bot gb.2) (by omega), ga.1.mul gb.1, q⟩
theorem ok_plus (A : AllD K mg) (B : Blt mg) : FnOk P w K mg base (CXF P w) 4 A.f_plus A.d_plus ["one", "other"] (spV K (C_bin plF)) :=
  fn_V A.D_plus.F sc_plus b_plus len_plus nice_plus fun cdv A_ outer s H E hr => have hu := hr.units
  vs_one (vs_ret (v_call rfl (ok_fractionV A B) (hr.mono (by decide)) lk_plus_fraction A.D_fraction.m A.D_fraction.F.kp A.D_fraction.b passes_fn (va_BinOp (v_op (o_add rfl) (v_op o_mul (v_ix (o_ix rfl) (v_var (i := 0) rfl (Or.inl lk_plus_one)) (v_int) (fun _ _ => rfl)) (v_ix (o_ix rfl) (v_var (i := 1) rfl (Or.inl lk_plus_other)) (v_int) (fun _ _ => rfl))) (v_op o_mul (v_ix (o_ix rfl) (v_var (i := 1) rfl (Or.inl lk_plus_other)) (v_int) (fun _ _ => rfl)) (v_ix (o_ix rfl) (v_var (i := 0) rfl (Or.inl lk_plus_one)) (v_int) (fun _ _ => rfl)))) (va_BinOp (v_op o_mul (v_ix (o_ix rfl) (v_var (i := 0) rfl (Or.inl lk_plus_one)) (v_int) (fun _ _ => rfl)) (v_ix (o_ix rfl) (v_var (i := 1) rfl (Or.inl lk_plus_other)) (v_int) (fun _ _ => rfl))) va_nil))))
def b_minus : Sv :=
  vRet (vCall C_fraction [vOp wSub (vOp wMul (vOp wIx (vVar 0) (vC (.int 0))) (vOp wIx (vVar 1) (vC (.int 1)))) (vOp wMul (vOp wIx (vVar 1) (vC (.int 0))) (vOp wIx (vVar 0) (vC (.int 1)))), vOp wMul (vOp wIx (vVar 0) (vC (.int 1))) (vOp wIx (vVar 1) (vC (.int 1)))])
theorem sc_minus : FnScope ["one", "other"] ["one", "other"] (defScope s_minus) := ⟨rfl, rfl, rfl, by decide +kernel, rfl, by decide +kernel, by decide +kernel⟩
theorem lk_minus_one : Lk s_minus "one" .local := by decide +kernel
theorem lk_minus_other : Lk s_minus "other" .local := by decide +kernel
theorem lk_minus_fraction : Lk s_minus "fraction" .globalImplicit := by decide +kernel
theorem len_minus : ∀ ts Q, C_bin mnF ts Q -> ts.length = 2 := bin_len
theorem nice_minus : ∀ ts Q, C_bin mnF ts Q -> bodyC 2 b_minus ts Q := by
  rintro _ Q ⟨a, b, j, k, rfl, ga, gb, h, q⟩
  have xa := ga.m (show j <= 100000 by omega)
  have xb := gb.m (show k <= 100000 by omega)
  exact ⟨⟨xa.1, xb.2⟩, ⟨xb.1, xa.2⟩, ⟨xa.2, xb.2⟩, _, _, rfl, lt_big (ga.2.bot gb.2) (by omega), ga.1.mul gb.1, q⟩
theorem ok_minus (A : AllD K mg) (B : Blt mg) : FnOk P w K mg base (CXF P w) 4 A.f_minus A.d_minus ["one", "other"] (spV K (C_bin mnF)) :=
  fn_V A.D_minus.F sc_minus b_minus len_minus nice_minus fun cdv A_ outer s H E hr => have hu := hr.units
  vs_one (vs_ret (v_call rfl (ok_fractionV A B) (hr.mono (by decide)) lk_minus_fraction A.D_fraction.m A.D_fraction.F.kp A.D_fraction.b passes_fn (va_BinOp (v_op o_sub (v_op o_mul (v_ix (o_ix rfl) (v_var (i := 0) rfl (Or.inl lk_minus_one)) (v_int) (fun _ _ => rfl)) (v_ix (o_ix rfl) (v_var (i := 1) rfl (Or.inl lk_minus_other)) (v_int) (fun _ _ => rfl))) (v_op o_mul (v_ix (o_ix rfl) (v_var (i := 1) rfl (Or.inl lk_minus_other)) (v_int) (fun _ _ => rfl)) (v_ix (o_ix rfl) (v_var (i := 0) rfl (Or.inl lk_minus_one)) (v_int) (fun _ _ => rfl)))) (va_BinOp (v_op o_mul (v_ix (o_ix rfl) (v_var (i := 0) rfl (Or.inl lk_minus_one)) (v_int) (fun _ _ => rfl)) (v_ix (o_ix rfl) (v_var (i := 1) rfl (Or.inl lk_minus_other)) (v_int) (fun _ _ => rfl))) va_nil))))
def b_times : Sv :=
  vRet (vCall C_fraction [vOp wMul (vOp wIx (vVar 0) (vC (.int 0))) (vOp wIx (vVar 1) (vC (.int 0))), vOp wMul (vOp wIx (vVar 0) (vC (.int 1))) (vOp wIx (vVar 1) (vC (.int 1)))])
theorem sc_times : FnScope ["one", "other"] ["one", "other"] (defScope s_times) := ⟨rfl, rfl, rfl, by decide +kernel, rfl, by decide +kernel, by decide +kernel⟩
theorem lk_times_one : Lk s_times "one" .local := by decide +kernel
theorem lk_times_other : Lk s_times "other" .local := by decide +kernel
theorem lk_times_fraction : Lk s_times "fraction" .globalImplicit := by decide +kernel
theorem len_times : ∀ ts Q, C_bin tiF ts Q -> ts.length = 2 := bin_len
theorem nice_times : ∀ ts Q, C_bin tiF ts Q -> bodyC 2 b_times ts Q := by
  rintro _ Q ⟨a, b, j, k, rfl, ga, gb, h, q⟩
  have xa := ga.m (show j <= 100000 by omega)
  have xb := gb.m (show k <= 100000 by omega)
  exact ⟨⟨xa.1, xb.1⟩, ⟨xa.2, xb.2⟩, _, _, rfl, lt_big (ga.2.bot gb.2) (by omega), ga.1.mul gb.1, q⟩
theorem ok_times (A : AllD K mg) (B : Blt mg) : FnOk P w K mg base (CXF P w) 4 A.f_times A.d_times ["one", "other"] (spV K (C_bin tiF)) :=
  fn_V A.D_times.F sc_times b_times len_times nice_times fun cdv A_ outer s H E hr => have hu := hr.units
  vs_one (vs_ret (v_call rfl (ok_fractionV A B) (hr.mono (by decide)) lk_times_fraction A.D_fraction.m A.D_fraction.F.kp A.D_fraction.b passes_fn (va_BinOp (v_op o_mul (v_ix (o_ix rfl) (v_var (i := 0) rfl (Or.inl lk_times_one)) (v_int) (fun _ _ => rfl)) (v_ix (o_ix rfl) (v_var (i := 1) rfl (Or.inl lk_times_other)) (v_int) (fun _ _ => rfl))) (va_BinOp (v_op o_mul (v_ix (o_ix rfl) (v_var (i := 0) rfl (Or.inl lk_times_one)) (v_int) (fun _ _ => rfl)) (v_ix (o_ix rfl) (v_var (i := 1) rfl (Or.inl lk_times_other)) (v_int) (fun _ _ => rfl))) va_nil))))
def b_less : Sv :=
  vRet (vOp wLt (vOp wMul (vOp wIx (vVar 0) (vC (.int 0))) (vOp wIx (vVar 1) (vC (.int 1)))) (vOp wMul (vOp wIx (vVar 1) (vC (.int 0))) (vOp wIx (vVar 0) (vC (.int 1)))))
def C_less : Ct := fun ts P => ∃ a b j k, ts = [encF a, encF b] /\ Gd j a /\ Gd k b /\ j + k <= 7000 /\ P (.ok (.va (.bl (decide (qv a < qv b)))))
theorem sc_less : FnScope ["one", "other"] ["one", "other"] (defScope s_less) := ⟨rfl, rfl, rfl, by decide +kernel, rfl, by decide +kernel, by decide +kernel⟩
theorem lk_less_one : Lk s_less "one" .local := by decide +kernel
theorem lk_less_other : Lk s_less "other" .local := by decide +kernel
theorem len_less : ∀ ts Q, C_less ts Q -> ts.length = 2 := fun ts Q ⟨_, _, _, _, e, _⟩ => by rw [e]; rfl
theorem nice_less : ∀ ts Q, C_less ts Q -> bodyC 2 b_less ts Q := by
  rintro _ Q ⟨a, b, j, k, rfl, ga, gb, h, q⟩
  have xa := ga.m (show j <= 100000 by omega)
  have xb := gb.m (show k <= 100000 by omega)
  refine ⟨⟨xa.1, xb.2⟩, ⟨xb.1, xa.2⟩, ?_⟩
  rw [show decide (qv a < qv b) = decide (a.1 * b.2 < b.1 * a.2) from decide_eq_decide.mpr (qv_lt ga.1.pos gb.1.pos)] at q
  exact q
theorem ok_less (A : AllD K mg) (B : Blt mg) : FnOk P w K mg base (CXF P w) 1 A.f_less A.d_less ["one", "other"] (spV K C_less) :=
  fn_V A.D_less.F sc_less b_less len_less nice_less fun cdv A_ outer s H E hr => have hu := hr.units
  vs_one (vs_ret (v_cmp o_lt (v_op o_mul (v_ix (o_ix rfl) (v_var (i := 0) rfl (Or.inl lk_less_one)) (v_int) (fun _ _ => rfl)) (v_ix (o_ix rfl) (v_var (i := 1) rfl (Or.inl lk_less_other)) (v_int) (fun _ _ => rfl))) (v_op o_mul (v_ix (o_ix rfl) (v_var (i := 1) rfl (Or.inl lk_less_other)) (v_int) (fun _ _ => rfl)) (v_ix (o_ix rfl) (v_var (i := 0) rfl (Or.inl lk_less_one)) (v_int) (fun _ _ => rfl))) (nomark _)))
def b_stands_2 : Sv := vRet (vOp wEq (vVar 0) (vVar 2))
def b_stands_1s : Sv := vIfS (vCmp wEq (vVar 1) (vC (.str ">="))) (vRet (vNotV (vCall C_less [vVar 0, vVar 2]))) (vNext)
def b_stands_1 : Sv := vSeq b_stands_1s b_stands_2
def b_stands_0s : Sv := vIfS (vCmp wEq (vVar 1) (vC (.str "<="))) (vRet (vNotV (vCall C_less [vVar 2, vVar 0]))) (vNext)
def b_stands : Sv :=
  vSeq b_stands_0s b_stands_1
def C_stands : Ct := fun ts P => ∃ l m b j k, ts = [encF l, .str m, encF b] /\ Gd j l /\ Gd k b /\ j + k <= 7000 /\ P (.ok (.va (.bl (stQ (qv l) m (qv b)))))
theorem sc_stands : FnScope ["left", "mark", "bound"] ["left", "mark", "bound"] (defScope s_stands) := ⟨rfl, rfl, rfl, by decide +kernel, rfl, by decide +kernel, by decide +kernel⟩
theorem lk_stands_left : Lk s_stands "left" .local := by decide +kernel
theorem lk_stands_mark : Lk s_stands "mark" .local := by decide +kernel
theorem lk_stands_bound : Lk s_stands "bound" .local := by decide +kernel
theorem lk_stands_less : Lk s_stands "less" .globalImplicit := by decide +kernel
theorem len_stands : ∀ ts Q, C_stands ts Q -> ts.length = 3 := fun ts Q ⟨_, _, _, _, _, e, _⟩ => by rw [e]; rfl
theorem nice_stands : ∀ ts Q, C_stands ts Q -> bodyC 3 b_stands ts Q := by
  rintro _ Q ⟨l, m, b, j, k, rfl, gl, gb, h, q⟩
  unfold stQ at q
  refine ite_go (fun c1 => ?_) fun c1 => ?_
  · rw [if_pos (of_decide_eq_true c1)] at q
    exact ⟨b, l, k, j, rfl, gb, gl, by omega, q⟩
  rw [if_neg (of_decide_eq_false c1)] at q
  refine ite_go (fun c2 => ?_) fun c2 => ?_
  · rw [if_pos (of_decide_eq_true c2)] at q
    exact ⟨l, b, j, k, rfl, gl, gb, h, q⟩
  rw [if_neg (of_decide_eq_false c2)] at q
  refine .inl ⟨rfl, rfl, ?_⟩
  have e : decide (qv l = qv b) = eqFs [.int l.1, .int l.2] [.int b.1, .int b.2] := by
    have e2 : eqFs [.int l.1, .int l.2] [.int b.1, .int b.2] = decide (l = b) := by
      show (l.1 == b.1 && (l.2 == b.2 && true)) = _
      rw [Bool.eq_iff_iff]
      simp [Prod.ext_iff]
    rw [e2]
    exact decide_eq_decide.mpr ⟨red_qv gl.1 gb.1, fun e => by rw [e]⟩
  rw [e] at q
  exact q
theorem ok_stands (A : AllD K mg) (B : Blt mg) : FnOk P w K mg base (CXF P w) 2 A.f_stands A.d_stands ["left", "mark", "bound"] (spV K C_stands) :=
  fn_V A.D_stands.F sc_stands b_stands len_stands nice_stands fun cdv A_ outer s H E hr => have hu := hr.units
  vs_cons (vs_if (vt_cmp (o_eq rfl hu) (v_var (i := 1) rfl (Or.inl lk_stands_mark)) (v_str) (nomark _)) (vs_one (vs_ret (v_not (v_call rfl (ok_less A B) (hr.mono (by decide)) lk_stands_less A.D_less.m A.D_less.F.kp A.D_less.b passes_fn (va_Name (v_var (i := 2) rfl (Or.inl lk_stands_bound)) (va_Name (v_var (i := 0) rfl (Or.inl lk_stands_left)) va_nil)))))) (vs_nil))
  (vs_cons (vs_if (vt_cmp (o_eq rfl hu) (v_var (i := 1) rfl (Or.inl lk_stands_mark)) (v_str) (nomark _)) (vs_one (vs_ret (v_not (v_call rfl (ok_less A B) (hr.mono (by decide)) lk_stands_less A.D_less.m A.D_less.F.kp A.D_less.b passes_fn (va_Name (v_var (i := 0) rfl (Or.inl lk_stands_left)) (va_Name (v_var (i := 2) rfl (Or.inl lk_stands_bound)) va_nil)))))) (vs_nil))
  (vs_one (vs_ret (v_cmp (o_eq rfl hu) (v_var (i := 0) rfl (Or.inl lk_stands_left)) (v_var (i := 2) rfl (Or.inl lk_stands_bound)) (nomark _)))))
def b_worth_2 : Sv := vRet (vVar 2)
def b_worth_1s : Sv := vFor (vSeqI (vOp wIx (vVar 0) (vC (.int 1)))) (gT [3, 4]) (vSet 2 (vCall (C_bin plF) [vVar 2, vCall (C_bin tiF) [vVar 4, vOp wIx (vVar 1) (vVar 3)]]))
def b_worth_1 : Sv := vSeq b_worth_1s b_worth_2
def b_worth_0s : Sv := vSet 2 (vOp wIx (vVar 0) (vC (.int 0)))
def b_worth : Sv :=
  vSeq b_worth_0s b_worth_1
def C_worth : Ct := fun ts P => ∃ c ps vals w kp kv j, ts = [.tup [encF c, encP ps], w] /\ isSq w (encVs vals) /\ (∀ x ∈ vals, Gd kv x) /\ (∀ m ∈ ps, Gd kp m.2 /\ 0 <= m.1 /\ m.1 < vals.length) /\ Gd j c /\ j + (kp + kv + 1) * (ps.length + 1) <= 6000 /\ P (.ok (.va (encF (wrtF vals c ps))))
theorem sc_worth : FnScope ["one", "values", "total", "number", "part"] ["one", "values"] (defScope s_worth) := ⟨rfl, rfl, rfl, by decide +kernel, rfl, by decide +kernel, by decide +kernel⟩
theorem lk_worth_one : Lk s_worth "one" .local := by decide +kernel
theorem lk_worth_values : Lk s_worth "values" .local := by decide +kernel
theorem lk_worth_total : Lk s_worth "total" .local := by decide +kernel
theorem lk_worth_number : Lk s_worth "number" .local := by decide +kernel
theorem lk_worth_part : Lk s_worth "part" .local := by decide +kernel
theorem lk_worth_plus : Lk s_worth "plus" .globalImplicit := by decide +kernel
theorem lk_worth_times : Lk s_worth "times" .globalImplicit := by decide +kernel
theorem len_worth : ∀ ts Q, C_worth ts Q -> ts.length = 2 := fun ts Q ⟨_, _, _, _, _, _, _, e, _⟩ => by rw [e]; rfl
theorem nice_worth : ∀ ts Q, C_worth ts Q -> bodyC 5 b_worth ts Q := by
  rintro _ Q ⟨c, ps, vals, w, kp, kv, j, rfl, hw, gv, hp, gc, hb, q⟩
  refine forW_by (fun i ρ => ∃ c' a b, ρ = [.va (.tup [encF c, encP ps]), .va w, .va (encF c'), a, b] /\ wrtF vals c' (ps.drop i) = wrtF vals c ps /\ Gd (j + (kp + kv + 1) * i) c') ⟨c, .un, .un, rfl, rfl, gc⟩ (fun i x ρ e hi K k => ?_) fun ρ hi => ?_
  · obtain ⟨c', a, b, rfl, ew, gc'⟩ := hi
    rw [List.getElem?_map] at e
    obtain ⟨m, hm, rfl⟩ := Option.map_eq_some_iff.mp e
    have hi : i < ps.length := (List.getElem?_eq_some_iff.mp hm).1
    obtain ⟨g1, h0, h1⟩ := hp m (List.mem_of_getElem? hm)
    have g2 := gv _ (valAt_mem h0 h1)
    have hmul : (kp + kv + 1) * (i + 1) <= (kp + kv + 1) * (ps.length + 1) := Nat.mul_le_mul_left _ (by omega)
    rw [Nat.mul_succ] at hmul
    have hk0 : kp + kv + 1 <= (kp + kv + 1) * (ps.length + 1) := Nat.le_mul_of_pos_right _ (by omega)
    refine ⟨_, rfl, sq_ix hw h0 (enc_at h0 h1) ⟨m.2, valAt vals m.1, kp, kv, rfl, g1, g2, by omega, ⟨c', _, _, _, rfl, gc', g1.times g2, by omega, k _ ⟨_, _, _, rfl, ?_, ?_⟩⟩⟩⟩
    · rw [← ew, List.drop_eq_getElem_cons hi, show ps[i] = m from Option.some.inj ((List.getElem?_eq_getElem hi).symm.trans hm)]
      rfl
    · rw [Nat.mul_succ]
      exact (gc'.plus (g1.times g2)).mono (by omega)
  · obtain ⟨c', a, b, rfl, ew, gc'⟩ := hi
    rw [List.length_map, List.drop_length] at ew
    have ew : c' = wrtF vals c ps := ew
    rw [← ew] at q
    exact q
theorem ok_worth (A : AllD K mg) (B : Blt mg) : FnOk P w K mg base (CXF P w) 5 A.f_worth A.d_worth ["one", "values"] (spV K C_worth) :=
  fn_V A.D_worth.F sc_worth b_worth len_worth nice_worth fun cdv A_ outer s H E hr => have hu := hr.units
  vs_cons (vs_set (i := 2) sc_worth.nd rfl (Or.inl lk_worth_total) (v_ix (o_ix rfl) (v_var (i := 0) rfl (Or.inl lk_worth_one)) (v_int) (fun _ _ => rfl)))
  (vs_cons (vs_for pown_fn rfl (vi_seq rfl (v_ix (o_ix rfl) (v_var (i := 0) rfl (Or.inl lk_worth_one)) (v_int) (fun _ _ => rfl))) (pg_tupK rfl rfl (vgs_cons (i := 3) sc_worth.nd rfl (Or.inl lk_worth_number) (.inl rfl) (vgs_cons (i := 4) sc_worth.nd rfl (Or.inl lk_worth_part) (.inl rfl) (vgs_nil)))) (tg_tup rfl) (vs_one (vs_set (i := 2) sc_worth.nd rfl (Or.inl lk_worth_total) (v_call rfl (ok_plus A B) (hr.mono (by decide)) lk_worth_plus A.D_plus.m A.D_plus.F.kp A.D_plus.b passes_fn (va_Name (v_var (i := 2) rfl (Or.inl lk_worth_total)) (va_Call (v_call rfl (ok_times A B) (hr.mono (by decide)) lk_worth_times A.D_times.m A.D_times.F.kp A.D_times.b passes_fn (va_Name (v_var (i := 4) rfl (Or.inl lk_worth_part)) (va_Subscript (v_ix (o_ix rfl) (v_var (i := 1) rfl (Or.inl lk_worth_values)) (v_var (i := 3) rfl (Or.inl lk_worth_number)) (fun _ _ => rfl)) va_nil))) va_nil))))))
  (vs_one (vs_ret (v_var (i := 2) rfl (Or.inl lk_worth_total)))))
def b_pairs_at : Sv :=
  vRet (vCall C_worth [vTup [vC (.tup [.int 0, .int 1]), vVar 0], vVar 1])
def C_pairs_at : Ct := fun ts P => ∃ ps vals w kp kv, ts = [encP ps, w] /\ isSq w (encVs vals) /\ (∀ x ∈ vals, Gd kv x) /\ (∀ m ∈ ps, Gd kp m.2 /\ 0 <= m.1 /\ m.1 < vals.length) /\ 1 + (kp + kv + 1) * (ps.length + 1) <= 6000 /\ P (.ok (.va (encF (wrtF vals (0, 1) ps))))
theorem sc_pairs_at : FnScope ["pairs", "values"] ["pairs", "values"] (defScope s_pairs_at) := ⟨rfl, rfl, rfl, by decide +kernel, rfl, by decide +kernel, by decide +kernel⟩
theorem lk_pairs_at_pairs : Lk s_pairs_at "pairs" .local := by decide +kernel
theorem lk_pairs_at_values : Lk s_pairs_at "values" .local := by decide +kernel
theorem lk_pairs_at_NOUGHT : Lk s_pairs_at "NOUGHT" .globalImplicit := by decide +kernel
theorem lk_pairs_at_worth : Lk s_pairs_at "worth" .globalImplicit := by decide +kernel
theorem len_pairs_at : ∀ ts Q, C_pairs_at ts Q -> ts.length = 2 := fun ts Q ⟨_, _, _, _, _, e, _⟩ => by rw [e]; rfl
theorem nice_pairs_at : ∀ ts Q, C_pairs_at ts Q -> bodyC 2 b_pairs_at ts Q := by
  rintro _ Q ⟨ps, vals, w, kp, kv, rfl, hw, gv, hp, hb, q⟩
  exact ⟨(0, 1), ps, vals, w, kp, kv, 1, rfl, hw, gv, hp, gd_one (by decide), hb, q⟩
theorem ok_pairs_at (A : AllD K mg) (B : Blt mg) : FnOk P w K mg base (CXF P w) 6 A.f_pairs_at A.d_pairs_at ["pairs", "values"] (spV K C_pairs_at) :=
  fn_V A.D_pairs_at.F sc_pairs_at b_pairs_at len_pairs_at nice_pairs_at fun cdv A_ outer s H E hr => have hu := hr.units
  vs_one (vs_ret (v_call rfl (ok_worth A B) (hr.mono (by decide)) lk_pairs_at_worth A.D_worth.m A.D_worth.F.kp A.D_worth.b passes_fn (va_Tuple (v_tup (va_Name (v_glob (v := .ref A.a_NOUGHT) lk_pairs_at_NOUGHT A.m_NOUGHT rfl A.r_NOUGHT) (va_Name (v_var (i := 0) rfl (Or.inl lk_pairs_at_pairs)) va_nil))) (va_Name (v_var (i := 1) rfl (Or.inl lk_pairs_at_values)) va_nil))))
theorem RwOk.at {n : Nat} {r : Rw} (h : RwOk n r) {vals : List Fq} (hv : vals.length = n) (n4 : n <= 4) : (∀ m ∈ r.ps, Gd 31 m.2 /\ 0 <= m.1 /\ m.1 < vals.length) /\ 1 + (31 + 200 + 1) * (r.ps.length + 1) <= 6000 := by
  refine ⟨fun m hm => ?_, ?_⟩
  · have := h.ps.it m hm
    rw [hv]; exact this
  · have := h.ps.l
    omega
theorem zip_enc {us : List Un} {vals : List Fq} : zipL (us.map encU) (encVs vals) = (us.zip vals).map fun x => .tup [encU x.1, encF x.2] := by
  unfold zipL encVs
  rw [List.zipWith_map, List.zip, List.map_zipWith]
theorem all_bl (l : List Bool) : allB (l.map Tv.bl) = some (l.all id) := by
  induction l with
  | nil => rfl
  | cons b l ih => show (allB (l.map Tv.bl)).map (b && ·) = _; rw [ih]; rfl
def b_turned_3 : Sv := vRet (vFn wTuple [vComp 2 [] (vSeqI (vVar 2)) (gT [0, 1]) (vYes) (vTup [vVar 0, vCall (C_bin mnF) [vC (.tup [.int 0, .int 1]), vVar 1]])])
def b_turned_2s : Sv := vIfS (vCmp wEq (vVar 1) (vC (.str "least"))) (vRet (vVar 2)) (vNext)
def b_turned_2 : Sv := vSeq b_turned_2s b_turned_3
def b_turned_1s : Sv := vSet 2 (vOp wIx (vOp wIx (vVar 0) (vC (.int 2))) (vC (.int 1)))
def b_turned_1 : Sv := vSeq b_turned_1s b_turned_2
def b_turned_0s : Sv := vSet 1 (vOp wIx (vOp wIx (vVar 0) (vC (.int 2))) (vC (.int 0)))
def b_turned : Sv :=
  vSeq b_turned_0s b_turned_1
def negF (a : Fq) : Fq := mnF (0, 1) a
def turnP (p : Pln) : Pq := if p.way = "least" then p.gp else p.gp.map fun m => (m.1, negF m.2)
def C_turned : Ct := fun ts P => ∃ n p, ts = [encPl p] /\ PlOk n p /\ P (.ok (.va (encP (turnP p))))
theorem sc_turned : FnScope ["plan", "way", "pairs"] ["plan"] (defScope s_turned) := ⟨rfl, rfl, rfl, by decide +kernel, rfl, by decide +kernel, by decide +kernel⟩
theorem lk_turned_plan : Lk s_turned "plan" .local := by decide +kernel
theorem lk_turned_way : Lk s_turned "way" .local := by decide +kernel
theorem lk_turned_pairs : Lk s_turned "pairs" .local := by decide +kernel
theorem lk_turned_tuple : Lk s_turned "tuple" .globalImplicit := by decide +kernel
theorem len_turned : ∀ ts Q, C_turned ts Q -> ts.length = 1 := fun ts Q ⟨_, _, e, _⟩ => by rw [e]; rfl
theorem nice_turned : ∀ ts Q, C_turned ts Q -> bodyC 3 b_turned ts Q := by
  rintro _ Q ⟨n, p, rfl, hp, q⟩
  unfold turnP at q
  refine ite_go (fun c => ?_) fun c => ?_
  · rw [if_pos (of_decide_eq_true c)] at q
    exact q
  rw [if_neg (of_decide_eq_false c)] at q
  refine ⟨few_line (by rw [List.length_map]; have := hp.gp.l; have := hp.n4; omega), ?_⟩
  refine compW_enc (fun m : Int × Fq => .tup [.int m.1, encF m.2]) (fun m => .tup [.int m.1, encF (negF m.2)]) (fun m hm Ky Kn k => ?_) ?_
  · exact ⟨_, rfl, rfl, (0, 1), m.2, 1, 31, rfl, gd_one (by decide), (hp.gp.it m hm).1, by decide, rfl, k⟩
  · unfold encP at q
    rw [List.map_map] at q
    exact q
theorem ok_turned (A : AllD K mg) (B : Blt mg) : FnOk P w K mg base (CXF P w) 5 A.f_turned A.d_turned ["plan"] (spV K C_turned) :=
  fn_V A.D_turned.F sc_turned b_turned len_turned nice_turned fun cdv A_ outer s H E hr => have hu := hr.units
  vs_cons (vs_set (i := 1) sc_turned.nd rfl (Or.inl lk_turned_way) (v_ix (o_ix rfl) (v_ix (o_ix rfl) (v_var (i := 0) rfl (Or.inl lk_turned_plan)) (v_int) (fun _ _ => rfl)) (v_int) (fun _ _ => rfl)))
  (vs_cons (vs_set (i := 2) sc_turned.nd rfl (Or.inl lk_turned_pairs) (v_ix (o_ix rfl) (v_ix (o_ix rfl) (v_var (i := 0) rfl (Or.inl lk_turned_plan)) (v_int) (fun _ _ => rfl)) (v_int) (fun _ _ => rfl)))
  (vs_cons (vs_if (vt_cmp (o_eq rfl hu) (v_var (i := 1) rfl (Or.inl lk_turned_way)) (v_str) (nomark _)) (vs_one (vs_ret (v_var (i := 2) rfl (Or.inl lk_turned_pairs)))) (vs_nil))
  (vs_one (vs_ret (v_fnT (f_tuple rfl) lk_turned_tuple B.tuple bt_tuple (va_ListComp (v_comp rfl (frees_of ["number", "part"] [] ["plan", "way", "pairs"] (by decide +kernel)) (noFree rfl) (by decide +kernel) rfl (by decide +kernel) (fun y hy => PySem.mem_of_lookup hy) rfl (tg_tup rfl) (keeps_tup (by decide)) noOw_tup (vi_seq rfl (v_var (i := 2) rfl (Or.inl lk_turned_pairs))) (fun cl C s H fp pins => pg_tupK rfl rfl (vgs_cons (i := 0) (show (["number", "part"] : List Str).Nodup by decide +kernel) rfl (Or.inl (c_loc (by decide +kernel))) (.inr (c_loc (by decide +kernel))) (vgs_cons (i := 1) (show (["number", "part"] : List Str).Nodup by decide +kernel) rfl (Or.inl (c_loc (by decide +kernel))) (.inr (c_loc (by decide +kernel))) (vgs_nil)))) (fun cl C s H fp pins => vif_nil) (fun cl C s H fp pins => v_tup (va_Name (v_var (i := 0) rfl (c_vloc (by decide +kernel))) (va_Call (v_call rfl (ok_minus A B) (hr.mono (by decide)) (c_gl (by decide +kernel)) A.D_minus.m A.D_minus.F.kp A.D_minus.b passE0 (va_Name (v_glob (v := .ref A.a_NOUGHT) (c_gl (by decide +kernel)) A.m_NOUGHT rfl A.r_NOUGHT) (va_Name (v_var (i := 1) rfl (c_vloc (by decide +kernel))) va_nil))) va_nil)))) va_nil))))))
def b_l_at : Sv :=
  vSeq (vIfS (vCmp wLt (vVar 1) (vFn wLen [vVar 0])) (vRet (vOp wIx (vVar 0) (vVar 1))) (vNext))
  (vRet (vC (.int 0)))
def C_l_at : Ct := fun ts P => ∃ (ns : List Int) (i : Int), ts = [.scr (ns.map Tv.int), .int i] /\ 0 <= i /\ ∀ c, P (.ok (.va (.int c)))
theorem sc_l_at : FnScope ["_law_script", "_law_k"] ["_law_script", "_law_k"] (defScope s_l_at) := ⟨rfl, rfl, rfl, by decide +kernel, rfl, by decide +kernel, by decide +kernel⟩
theorem lk_l_at__law_script : Lk s_l_at "_law_script" .local := by decide +kernel
theorem lk_l_at__law_k : Lk s_l_at "_law_k" .local := by decide +kernel
theorem lk_l_at_len : Lk s_l_at "len" .globalImplicit := by decide +kernel
theorem len_l_at : ∀ ts Q, C_l_at ts Q -> ts.length = 2 := fun ts Q ⟨_, _, e, _⟩ => by rw [e]; rfl
theorem nice_l_at : ∀ ts Q, C_l_at ts Q -> bodyC 2 b_l_at ts Q := by
  rintro _ Q ⟨ns, i, rfl, h0, q⟩
  refine ite_go (fun c => ?_) fun c => q 0
  refine ix_mem h0 (of_decide_eq_true c) fun t ht => ?_
  obtain ⟨n, _, rfl⟩ := List.mem_map.mp ht
  exact q n
theorem ok_l_at (A : AllD K mg) (B : Blt mg) : FnOk P w K mg base (CXF P w) 1 A.f_l_at A.d_l_at ["_law_script", "_law_k"] (spV K C_l_at) :=
  fn_V A.D_l_at.F sc_l_at b_l_at len_l_at nice_l_at fun cdv A_ outer s H E hr => have hu := hr.units
  vs_cons (vs_if (vt_cmp o_lt (v_var (i := 1) rfl (Or.inl lk_l_at__law_k)) (v_fnB (f_len rfl) lk_l_at_len B.len bt_len (va_Name (v_var (i := 0) rfl (Or.inl lk_l_at__law_script)) va_nil)) (nomark _)) (vs_one (vs_ret (v_ix (o_ix rfl) (v_var (i := 0) rfl (Or.inl lk_l_at__law_script)) (v_var (i := 1) rfl (Or.inl lk_l_at__law_k)) (fun _ _ => rfl)))) (vs_nil))
  (vs_one (vs_ret (v_int)))
def b_l_mixed : Sv :=
  vSeq (vSet 2 (vUn (wModC 2147483647) (vOp wMul (vOp wAdd (vOp wAdd (vUn (wModC 2147483647) (vVar 0)) (vOp wMul (vOp wMul (vC (.int 7919)) (vVar 1)) (vVar 1))) (vC (.int 3))) (vC (.int 48271)))))
  (vRet (vUn (wDivC 4) (vUn (wModC 2147483629) (vOp wMul (vVar 2) (vVar 2)))))
def C_l_mixed : Ct := fun ts P => ∃ c i, ts = [.int c, .int i] /\ (0 <= i /\ i <= 1000) /\ ∀ m, 0 <= m -> m < 536870912 -> P (.ok (.va (.int m)))
theorem sc_l_mixed : FnScope ["_law_cell", "_law_k", "_law_number"] ["_law_cell", "_law_k"] (defScope s_l_mixed) := ⟨rfl, rfl, rfl, by decide +kernel, rfl, by decide +kernel, by decide +kernel⟩
theorem lk_l_mixed__law_cell : Lk s_l_mixed "_law_cell" .local := by decide +kernel
theorem lk_l_mixed__law_k : Lk s_l_mixed "_law_k" .local := by decide +kernel
theorem lk_l_mixed__law_number : Lk s_l_mixed "_law_number" .local := by decide +kernel
theorem len_l_mixed : ∀ ts Q, C_l_mixed ts Q -> ts.length = 2 := fun ts Q ⟨_, _, e, _⟩ => by rw [e]; rfl
theorem small_BM {n : Nat} (h : n < 1180591620717411303424) : n < BM := lt_BMi (k := 70) (Nat.lt_of_lt_of_le h (by decide)) (by decide)
theorem nice_l_mixed : ∀ ts Q, C_l_mixed ts Q -> bodyC 3 b_l_mixed ts Q := by
  rintro _ Q ⟨c, i, rfl, ⟨h0, h1⟩, q⟩
  have a1 := Int.emod_nonneg c (show (2147483647 : Int) ≠ 0 by decide)
  have a2 := Int.emod_lt_of_pos c (show (0 : Int) < 2147483647 by decide)
  have m1 : 7919 * i * i <= 7919 * 1000 * 1000 := Int.mul_le_mul (by omega) h1 h0 (by decide)
  have m0 : 0 <= 7919 * i * i := Int.mul_nonneg (by omega) h0
  have b1 := Int.emod_nonneg ((c % 2147483647 + 7919 * i * i + 3) * 48271) (show (2147483647 : Int) ≠ 0 by decide)
  have b2 := Int.emod_lt_of_pos ((c % 2147483647 + 7919 * i * i + 3) * 48271) (show (0 : Int) < 2147483647 by decide)
  refine ⟨⟨small_BM (by omega), small_BM (by omega)⟩, ⟨small_BM (by omega), small_BM (by omega)⟩, ⟨small_BM (by omega), small_BM (by omega)⟩, ⟨small_BM (by omega), small_BM (by omega)⟩, q _ ?_ ?_⟩
  · omega
  · omega
theorem ok_l_mixed (A : AllD K mg) (B : Blt mg) : FnOk P w K mg base (CXF P w) 1 A.f_l_mixed A.d_l_mixed ["_law_cell", "_law_k"] (spV K C_l_mixed) :=
  fn_V A.D_l_mixed.F sc_l_mixed b_l_mixed len_l_mixed nice_l_mixed fun cdv A_ outer s H E hr => have hu := hr.units
  vs_cons (vs_set (i := 2) sc_l_mixed.nd rfl (Or.inl lk_l_mixed__law_number) (v_modC (v_op o_mul (v_op (o_add rfl) (v_op (o_add rfl) (v_modC (v_var (i := 0) rfl (Or.inl lk_l_mixed__law_cell))) (v_op o_mul (v_op o_mul (v_int) (v_var (i := 1) rfl (Or.inl lk_l_mixed__law_k))) (v_var (i := 1) rfl (Or.inl lk_l_mixed__law_k)))) (v_int)) (v_int))))
  (vs_one (vs_ret (v_divC (v_modC (v_op o_mul (v_var (i := 2) rfl (Or.inl lk_l_mixed__law_number)) (v_var (i := 2) rfl (Or.inl lk_l_mixed__law_number)))))))
def b_l_lowest_2 : Sv := vRet (vTup [vOp wDivB (vVar 0) (vVar 2), vOp wDivB (vVar 1) (vVar 2)])
def b_l_lowest_1s : Sv := vWhile (vCmp wGt (vVar 3) (vC (.int 0))) (vPar 2 3 (vVar 3) (vOp wModP (vVar 2) (vVar 3)))
def b_l_lowest_1 : Sv := vSeq b_l_lowest_1s b_l_lowest_2
def b_l_lowest_0s : Sv := vPar 2 3 (vVar 1) (vFn wAbs [vVar 0])
def b_l_lowest : Sv :=
  vSeq b_l_lowest_0s b_l_lowest_1
def C_l_lowest : Ct := fun ts P => ∃ t b, ts = [.int t, .int b] /\ 0 < b /\ b.natAbs < BIG /\ P (.ok (.va (encF (mkF t b))))
theorem sc_l_lowest : FnScope ["_law_top", "_law_bottom", "_law_one", "_law_other"] ["_law_top", "_law_bottom"] (defScope s_l_lowest) := ⟨rfl, rfl, rfl, by decide +kernel, rfl, by decide +kernel, by decide +kernel⟩
theorem lk_l_lowest__law_top : Lk s_l_lowest "_law_top" .local := by decide +kernel
theorem lk_l_lowest__law_bottom : Lk s_l_lowest "_law_bottom" .local := by decide +kernel
theorem lk_l_lowest__law_one : Lk s_l_lowest "_law_one" .local := by decide +kernel
theorem lk_l_lowest__law_other : Lk s_l_lowest "_law_other" .local := by decide +kernel
theorem lk_l_lowest_abs : Lk s_l_lowest "abs" .globalImplicit := by decide +kernel
theorem len_l_lowest : ∀ ts Q, C_l_lowest ts Q -> ts.length = 2 := fun ts Q ⟨_, _, e, _⟩ => by rw [e]; rfl
theorem nice_l_lowest : ∀ ts Q, C_l_lowest ts Q -> bodyC 4 b_l_lowest ts Q := by
  rintro _ Q ⟨t, b, rfl, hb, hz, q⟩
  refine ⟨fun n ρ => ∃ x y : Int, ρ = [.va (.int t), .va (.int b), .va (.int x), .va (.int y)] /\ 0 < x /\ 0 <= y /\ gd x y = gd t b /\ n = y.toNat, ⟨_, b, absI t, rfl, hb, by unfold absI; split <;> omega, ?_, rfl⟩, ?_⟩
  · rw [show gd b (absI t) = gd (absI t) b from by unfold gd; rw [Int.gcd_comm]]
    exact gd_abs t b
  · rintro n ρ ⟨x, y, rfl, hx, hy, e, rfl⟩
    refine ite_go1 (fun c => ?_) fun c => ?_
    · have hy0 : 0 < y := of_decide_eq_true c
      have h1 := Int.emod_nonneg x (show y ≠ 0 by omega)
      have h2 := Int.emod_lt_of_pos x hy0
      refine ⟨hy0, _, ?_, y, x % y, rfl, hy0, h1, ?_, rfl⟩
      · omega
      · rw [← e, ← gd_step (Int.le_of_lt hx) hy0, Int.fmod_eq_emod_of_nonneg _ (Int.le_of_lt hy0)]
    · have hy0 : y = 0 := by have := of_decide_eq_false c; omega
      subst hy0
      rw [gd_zero (Int.le_of_lt hx)] at e
      subst e
      have hl := gd_log (t := t) hb hz
      have hp := gd_pos (a := t) hb
      rw [← low_mk hb] at q
      exact ⟨⟨by omega, hl⟩, ⟨by omega, hl⟩, q⟩
theorem ok_l_lowest (A : AllD K mg) (B : Blt mg) : FnOk P w K mg base (CXF P w) 1 A.f_l_lowest A.d_l_lowest ["_law_top", "_law_bottom"] (spV K C_l_lowest) :=
  fn_V A.D_l_lowest.F sc_l_lowest b_l_lowest len_l_lowest nice_l_lowest fun cdv A_ outer s H E hr => have hu := hr.units
  vs_cons (vs_par (i := 2) (j := 3) rfl sc_l_lowest.nd rfl rfl (by decide) lk_l_lowest__law_one lk_l_lowest__law_other (va_Name (v_var (i := 1) rfl (Or.inl lk_l_lowest__law_bottom)) (va_Call (v_fnB f_abs lk_l_lowest_abs B.abs bt_abs (va_Name (v_var (i := 0) rfl (Or.inl lk_l_lowest__law_top)) va_nil)) va_nil)) rfl)
  (vs_cons (vs_while pown_fn (vt_cmp o_gt (v_var (i := 3) rfl (Or.inl lk_l_lowest__law_other)) (v_int) (nomark _)) (vs_one (vs_par (i := 2) (j := 3) rfl sc_l_lowest.nd rfl rfl (by decide) lk_l_lowest__law_one lk_l_lowest__law_other (va_Name (v_var (i := 3) rfl (Or.inl lk_l_lowest__law_other)) (va_BinOp (v_op o_modP (v_var (i := 2) rfl (Or.inl lk_l_lowest__law_one)) (v_var (i := 3) rfl (Or.inl lk_l_lowest__law_other))) va_nil)) rfl)))
  (vs_one (vs_ret (v_tup (va_BinOp (v_op o_divB (v_var (i := 0) rfl (Or.inl lk_l_lowest__law_top)) (v_var (i := 2) rfl (Or.inl lk_l_lowest__law_one))) (va_BinOp (v_op o_divB (v_var (i := 1) rfl (Or.inl lk_l_lowest__law_bottom)) (v_var (i := 2) rfl (Or.inl lk_l_lowest__law_one))) va_nil))))))
end
end Pw
set_option Elab.async false
set_option linter.all false
set_option maxRecDepth 100000
set_option maxHeartbeats 4000000
namespace Pw
open PySem L2
seal PE PT PW PA PS PSs PG PGs PI PIf PO
section
variable {P : Program} {w : World} {K : PySem.W.Frag} {mg : Str -> Option Value} {base : Heap} {f : Addr} {fd : FuncData}
def b_l_fraction_2 : Sv := vRet (vCall C_l_lowest [vOp wSub (vOp wModP (vUn (wDivC 20) (vVar 0)) (vOp wAdd (vOp wMul (vC (.int 2)) (vVar 1)) (vC (.int 1)))) (vVar 1), vVar 2])
def b_l_fraction_1s : Sv := vSet 2 (vOp wIx (vLst [vC (.int 1), vC (.int 1), vOp wAdd (vC (.int 1)) (vUn (wModC 9) (vUn (wDivC 7) (vVar 0))), vOp wAdd (vC (.int 1)) (vUn (wModC 999) (vUn (wDivC 11) (vVar 0)))]) (vUn (wModC 4) (vUn (wDivC 5) (vVar 0))))
def b_l_fraction_1 : Sv := vSeq b_l_fraction_1s b_l_fraction_2
def b_l_fraction_0s : Sv := vSet 1 (vOp wIx (vLst [vC (.int 9), vC (.int 9), vC (.int 9), vC (.int 99), vC (.int 999999999)]) (vUn (wModC 5) (vVar 0)))
def b_l_fraction : Sv :=
  vSeq b_l_fraction_0s b_l_fraction_1
def C_l_fraction : Ct := fun ts P => ∃ n : Int, ts = [.int n] /\ 0 <= n /\ ∀ a, Gd 31 a -> P (.ok (.va (encF a)))
theorem sc_l_fraction : FnScope ["_law_number", "_law_most", "_law_bottom"] ["_law_number"] (defScope s_l_fraction) := ⟨rfl, rfl, rfl, by decide +kernel, rfl, by decide +kernel, by decide +kernel⟩
theorem lk_l_fraction__law_number : Lk s_l_fraction "_law_number" .local := by decide +kernel
theorem lk_l_fraction__law_most : Lk s_l_fraction "_law_most" .local := by decide +kernel
theorem lk_l_fraction__law_bottom : Lk s_l_fraction "_law_bottom" .local := by decide +kernel
theorem lk_l_fraction__law_lowest : Lk s_l_fraction "_law_lowest" .globalImplicit := by decide +kernel
theorem len_l_fraction : ∀ ts Q, C_l_fraction ts Q -> ts.length = 1 := fun ts Q ⟨_, e, _⟩ => by rw [e]; rfl
theorem nice_l_fraction : ∀ ts Q, C_l_fraction ts Q -> bodyC 3 b_l_fraction ts Q := by
  rintro _ Q ⟨n, rfl, h0, q⟩
  refine ix_mem (by omega) (by show n % 5 < 5; omega) fun t ht => ?_
  obtain ⟨m, rfl, hm⟩ : ∃ m : Int, t = .int m /\ (0 <= m /\ m <= 999999999) := by
    simp only [List.mem_cons, List.not_mem_nil, or_false] at ht
    rcases ht with rfl | rfl | rfl | rfl | rfl <;> exact ⟨_, rfl, by decide, by decide⟩
  refine ix_mem (by omega) (by show n / 5 % 4 < 4; omega) fun t ht => ?_
  obtain ⟨b, rfl, hb⟩ : ∃ b : Int, t = .int b /\ (0 < b /\ b <= 1000) := by
    simp only [List.mem_cons, List.not_mem_nil, or_false] at ht
    rcases ht with rfl | rfl | rfl | rfl
    · exact ⟨_, rfl, by decide, by decide⟩
    · exact ⟨_, rfl, by decide, by decide⟩
    · exact ⟨_, rfl, by omega, by omega⟩
    · exact ⟨_, rfl, by omega, by omega⟩
  have h1 := Int.emod_nonneg (n / 20) (show 2 * m + 1 ≠ 0 by omega)
  have h2 := Int.emod_lt_of_pos (n / 20) (show 0 < 2 * m + 1 by omega)
  refine ⟨⟨small_BM (by decide), small_BM (by omega)⟩, by omega, _, b, rfl, hb.1, lt_big (k := 10) (by omega) (by decide), q _ (mk_gd hb.1 (by omega) (by omega))⟩
theorem ok_l_fraction (A : AllD K mg) (B : Blt mg) : FnOk P w K mg base (CXF P w) 2 A.f_l_fraction A.d_l_fraction ["_law_number"] (spV K C_l_fraction) :=
  fn_V A.D_l_fraction.F sc_l_fraction b_l_fraction len_l_fraction nice_l_fraction fun cdv A_ outer s H E hr => have hu := hr.units
  vs_cons (vs_set (i := 1) sc_l_fraction.nd rfl (Or.inl lk_l_fraction__law_most) (v_ix (o_ix rfl) (v_lst (va_Constant (v_int) (va_Constant (v_int) (va_Constant (v_int) (va_Constant (v_int) (va_Constant (v_int) va_nil)))))) (v_modC (v_var (i := 0) rfl (Or.inl lk_l_fraction__law_number))) (fun _ _ => rfl)))
  (vs_cons (vs_set (i := 2) sc_l_fraction.nd rfl (Or.inl lk_l_fraction__law_bottom) (v_ix (o_ix rfl) (v_lst (va_Constant (v_int) (va_Constant (v_int) (va_BinOp (v_op (o_add rfl) (v_int) (v_modC (v_divC (v_var (i := 0) rfl (Or.inl lk_l_fraction__law_number))))) (va_BinOp (v_op (o_add rfl) (v_int) (v_modC (v_divC (v_var (i := 0) rfl (Or.inl lk_l_fraction__law_number))))) va_nil))))) (v_modC (v_divC (v_var (i := 0) rfl (Or.inl lk_l_fraction__law_number)))) (fun _ _ => rfl)))
  (vs_one (vs_ret (v_call rfl (ok_l_lowest A B) (hr.mono (by decide)) lk_l_fraction__law_lowest A.D_l_lowest.m A.D_l_lowest.F.kp A.D_l_lowest.b passes_fn (va_BinOp (v_op o_sub (v_op o_modP (v_divC (v_var (i := 0) rfl (Or.inl lk_l_fraction__law_number))) (v_op (o_add rfl) (v_op o_mul (v_int) (v_var (i := 1) rfl (Or.inl lk_l_fraction__law_most))) (v_int))) (v_var (i := 1) rfl (Or.inl lk_l_fraction__law_most))) (va_Name (v_var (i := 2) rfl (Or.inl lk_l_fraction__law_bottom)) va_nil))))))
def b_l_plus : Sv :=
  vRet (vTup [vOp wAdd (vOp wMul (vOp wIx (vVar 0) (vC (.int 0))) (vOp wIx (vVar 1) (vC (.int 1)))) (vOp wMul (vOp wIx (vVar 1) (vC (.int 0))) (vOp wIx (vVar 0) (vC (.int 1)))), vOp wMul (vOp wIx (vVar 0) (vC (.int 1))) (vOp wIx (vVar 1) (vC (.int 1)))])
def C_l_plus : Ct := fun ts P => match ts with | [x0, x1] => b_l_plus [.va x0, .va x1] (bodyK P) | _ => False
theorem len_l_plus : ∀ ts P, C_l_plus ts P -> ts.length = 2 := fun ts P h => by
  unfold C_l_plus at h
  split at h
  · rfl
  · exact h.elim
theorem nice_l_plus : ∀ ts P, C_l_plus ts P -> bodyC 2 b_l_plus ts P := fun ts P h => by
  unfold C_l_plus at h
  split at h
  · exact h
  · exact h.elim
theorem sc_l_plus : FnScope ["_law_one", "_law_other"] ["_law_one", "_law_other"] (defScope s_l_plus) := ⟨rfl, rfl, rfl, by decide +kernel, rfl, by decide +kernel, by decide +kernel⟩
theorem lk_l_plus__law_one : Lk s_l_plus "_law_one" .local := by decide +kernel
theorem lk_l_plus__law_other : Lk s_l_plus "_law_other" .local := by decide +kernel
theorem ok_l_plus (A : AllD K mg) (B : Blt mg) : FnOk P w K mg base (CXF P w) 1 A.f_l_plus A.d_l_plus ["_law_one", "_law_other"] (spV K C_l_plus) :=
  fn_V A.D_l_plus.F sc_l_plus b_l_plus len_l_plus nice_l_plus fun cdv A_ outer s H E hr => have hu := hr.units
  vs_one (vs_ret (v_tup (va_BinOp (v_op (o_add rfl) (v_op o_mul (v_ix (o_ix rfl) (v_var (i := 0) rfl (Or.inl lk_l_plus__law_one)) (v_int) (fun _ _ => rfl)) (v_ix (o_ix rfl) (v_var (i := 1) rfl (Or.inl lk_l_plus__law_other)) (v_int) (fun _ _ => rfl))) (v_op o_mul (v_ix (o_ix rfl) (v_var (i := 1) rfl (Or.inl lk_l_plus__law_other)) (v_int) (fun _ _ => rfl)) (v_ix (o_ix rfl) (v_var (i := 0) rfl (Or.inl lk_l_plus__law_one)) (v_int) (fun _ _ => rfl)))) (va_BinOp (v_op o_mul (v_ix (o_ix rfl) (v_var (i := 0) rfl (Or.inl lk_l_plus__law_one)) (v_int) (fun _ _ => rfl)) (v_ix (o_ix rfl) (v_var (i := 1) rfl (Or.inl lk_l_plus__law_other)) (v_int) (fun _ _ => rfl))) va_nil))))
def b_l_times : Sv :=
  vRet (vTup [vOp wMul (vOp wIx (vVar 0) (vC (.int 0))) (vOp wIx (vVar 1) (vC (.int 0))), vOp wMul (vOp wIx (vVar 0) (vC (.int 1))) (vOp wIx (vVar 1) (vC (.int 1)))])
def C_l_times : Ct := fun ts P => match ts with | [x0, x1] => b_l_times [.va x0, .va x1] (bodyK P) | _ => False
theorem len_l_times : ∀ ts P, C_l_times ts P -> ts.length = 2 := fun ts P h => by
  unfold C_l_times at h
  split at h
  · rfl
  · exact h.elim
theorem nice_l_times : ∀ ts P, C_l_times ts P -> bodyC 2 b_l_times ts P := fun ts P h => by
  unfold C_l_times at h
  split at h
  · exact h
  · exact h.elim
theorem sc_l_times : FnScope ["_law_one", "_law_other"] ["_law_one", "_law_other"] (defScope s_l_times) := ⟨rfl, rfl, rfl, by decide +kernel, rfl, by decide +kernel, by decide +kernel⟩
theorem lk_l_times__law_one : Lk s_l_times "_law_one" .local := by decide +kernel
theorem lk_l_times__law_other : Lk s_l_times "_law_other" .local := by decide +kernel
theorem ok_l_times (A : AllD K mg) (B : Blt mg) : FnOk P w K mg base (CXF P w) 1 A.f_l_times A.d_l_times ["_law_one", "_law_other"] (spV K C_l_times) :=
  fn_V A.D_l_times.F sc_l_times b_l_times len_l_times nice_l_times fun cdv A_ outer s H E hr => have hu := hr.units
  vs_one (vs_ret (v_tup (va_BinOp (v_op o_mul (v_ix (o_ix rfl) (v_var (i := 0) rfl (Or.inl lk_l_times__law_one)) (v_int) (fun _ _ => rfl)) (v_ix (o_ix rfl) (v_var (i := 1) rfl (Or.inl lk_l_times__law_other)) (v_int) (fun _ _ => rfl))) (va_BinOp (v_op o_mul (v_ix (o_ix rfl) (v_var (i := 0) rfl (Or.inl lk_l_times__law_one)) (v_int) (fun _ _ => rfl)) (v_ix (o_ix rfl) (v_var (i := 1) rfl (Or.inl lk_l_times__law_other)) (v_int) (fun _ _ => rfl))) va_nil))))
def b_l_order : Sv :=
  vRet (vOp wSub (vOp wMul (vOp wIx (vVar 0) (vC (.int 0))) (vOp wIx (vVar 1) (vC (.int 1)))) (vOp wMul (vOp wIx (vVar 1) (vC (.int 0))) (vOp wIx (vVar 0) (vC (.int 1)))))
def C_l_order : Ct := fun ts P => match ts with | [x0, x1] => b_l_order [.va x0, .va x1] (bodyK P) | _ => False
theorem len_l_order : ∀ ts P, C_l_order ts P -> ts.length = 2 := fun ts P h => by
  unfold C_l_order at h
  split at h
  · rfl
  · exact h.elim
theorem nice_l_order : ∀ ts P, C_l_order ts P -> bodyC 2 b_l_order ts P := fun ts P h => by
  unfold C_l_order at h
  split at h
  · exact h
  · exact h.elim
theorem sc_l_order : FnScope ["_law_one", "_law_other"] ["_law_one", "_law_other"] (defScope s_l_order) := ⟨rfl, rfl, rfl, by decide +kernel, rfl, by decide +kernel, by decide +kernel⟩
theorem lk_l_order__law_one : Lk s_l_order "_law_one" .local := by decide +kernel
theorem lk_l_order__law_other : Lk s_l_order "_law_other" .local := by decide +kernel
theorem ok_l_order (A : AllD K mg) (B : Blt mg) : FnOk P w K mg base (CXF P w) 1 A.f_l_order A.d_l_order ["_law_one", "_law_other"] (spV K C_l_order) :=
  fn_V A.D_l_order.F sc_l_order b_l_order len_l_order nice_l_order fun cdv A_ outer s H E hr => have hu := hr.units
  vs_one (vs_ret (v_op o_sub (v_op o_mul (v_ix (o_ix rfl) (v_var (i := 0) rfl (Or.inl lk_l_order__law_one)) (v_int) (fun _ _ => rfl)) (v_ix (o_ix rfl) (v_var (i := 1) rfl (Or.inl lk_l_order__law_other)) (v_int) (fun _ _ => rfl))) (v_op o_mul (v_ix (o_ix rfl) (v_var (i := 1) rfl (Or.inl lk_l_order__law_other)) (v_int) (fun _ _ => rfl)) (v_ix (o_ix rfl) (v_var (i := 0) rfl (Or.inl lk_l_order__law_one)) (v_int) (fun _ _ => rfl)))))
def b_l_is_fraction_2 : Sv := vRet (vAndV (vOp wGt (vOp wIx (vVar 0) (vC (.int 1))) (vC (.int 0))) (vOp wEq (vCall C_l_lowest [vOp wIx (vVar 0) (vC (.int 0)), vOp wIx (vVar 0) (vC (.int 1))]) (vVar 0)))
def b_l_is_fraction_1s : Sv := vIfS (vCmp wNe (vComp 1 [] (vSeqI (vVar 0)) (gV 0) (vOr (vNot (vTest truT (vFn wIsi [vVar 0, vC (.ty "int")]))) (vTest truT (vFn wIsi [vVar 0, vC (.ty "bool")]))) (vVar 0)) (vLst [])) (vRet (vC (.bl false))) (vNext)
def b_l_is_fraction_1 : Sv := vSeq b_l_is_fraction_1s b_l_is_fraction_2
def b_l_is_fraction_0s : Sv := vIfS (vOr (vNot (vTest truT (vFn wIsi [vVar 0, vC (.ty "tuple")]))) (vCmp wNe (vFn wLen [vVar 0]) (vC (.int 2)))) (vRet (vC (.bl false))) (vNext)
def b_l_is_fraction : Sv :=
  vSeq b_l_is_fraction_0s b_l_is_fraction_1
def C_l_is_fraction : Ct := fun ts P => ∃ a k, ts = [encF a] /\ Gd k a /\ k <= 7000 /\ P (.ok (.va (.bl true)))
theorem sc_l_is_fraction : FnScope ["_law_found"] ["_law_found"] (defScope s_l_is_fraction) := ⟨rfl, rfl, rfl, by decide +kernel, rfl, by decide +kernel, by decide +kernel⟩
theorem lk_l_is_fraction__law_found : Lk s_l_is_fraction "_law_found" .local := by decide +kernel
theorem lk_l_is_fraction__law_lowest : Lk s_l_is_fraction "_law_lowest" .globalImplicit := by decide +kernel
theorem lk_l_is_fraction_isinstance : Lk s_l_is_fraction "isinstance" .globalImplicit := by decide +kernel
theorem lk_l_is_fraction_len : Lk s_l_is_fraction "len" .globalImplicit := by decide +kernel
theorem lk_l_is_fraction_tuple : Lk s_l_is_fraction "tuple" .globalImplicit := by decide +kernel
theorem len_l_is_fraction : ∀ ts Q, C_l_is_fraction ts Q -> ts.length = 1 := fun ts Q ⟨_, _, e, _⟩ => by rw [e]; rfl
theorem mk_self {a : Fq} (h : Red a) : mkF a.1 a.2 = a := red_uniq (mk_red (by have := h.pos; omega)) h (mk_cross (by have := h.pos; omega))
theorem nice_l_is_fraction : ∀ ts Q, C_l_is_fraction ts Q -> bodyC 1 b_l_is_fraction ts Q := by
  rintro _ Q ⟨a, k, rfl, ga, hk, q⟩
  have hp := ga.1.pos
  refine ⟨(show 2 < sizeLine by decide), ⟨_, rfl, rfl, ⟨_, rfl, rfl, .inl ⟨rfl, rfl, ?_⟩⟩⟩⟩
  refine ite_go (fun _ => ?_) fun c => absurd hp (of_decide_eq_false c)
  refine ⟨a.1, a.2, rfl, hp, lt_big ga.2.2 (by omega), .inr (.inl ⟨?_, rfl, q⟩)⟩
  rw [mk_self ga.1]
theorem ok_l_is_fraction (A : AllD K mg) (B : Blt mg) : FnOk P w K mg base (CXF P w) 2 A.f_l_is_fraction A.d_l_is_fraction ["_law_found"] (spV K C_l_is_fraction) :=
  fn_V A.D_l_is_fraction.F sc_l_is_fraction b_l_is_fraction len_l_is_fraction nice_l_is_fraction fun cdv A_ outer s H E hr => have hu := hr.units
  vs_cons (vs_if (PW.pt (vw_or (vt_not (vt_tru rfl (v_fnB (f_isi rfl) lk_l_is_fraction_isinstance B.isinstance bt_isinstance (va_Name (v_var (i := 0) rfl (Or.inl lk_l_is_fraction__law_found)) (va_Name (v_ty lk_l_is_fraction_tuple B.tuple bt_tuple) va_nil))))) (vw_or1 (vt_cmp (o_ne rfl hu) (v_fnB (f_len rfl) lk_l_is_fraction_len B.len bt_len (va_Name (v_var (i := 0) rfl (Or.inl lk_l_is_fraction__law_found)) va_nil)) (v_int) (nomark _))))) (vs_one (vs_ret (v_bl))) (vs_nil))
  (vs_cons (vs_if (vt_cmp (o_ne rfl hu) (v_comp rfl (frees_of ["_law_number"] [] ["_law_found"] (by decide +kernel)) (noFree rfl) (by decide +kernel) rfl (by decide +kernel) (fun y hy => PySem.mem_of_lookup hy) rfl (tg_name 0) (keeps_name (by decide)) noOw_name (vi_seq rfl (v_var (i := 0) rfl (Or.inl lk_l_is_fraction__law_found))) (fun cl C s H fp pins => pg_name (i := 0) (show (["_law_number"] : List Str).Nodup by decide +kernel) rfl (Or.inl (c_loc (by decide +kernel))) (.inr (c_loc (by decide +kernel)))) (fun cl C s H fp pins => vif_one (PW.pt (vw_or (vt_not (vt_tru rfl (v_fnB (f_isi rfl) (c_gl (by decide +kernel)) B.isinstance bt_isinstance (va_Name (v_var (i := 0) rfl (c_vloc (by decide +kernel))) (va_Name (v_ty (c_gl (by decide +kernel)) B.int bt_int) va_nil))))) (vw_or1 (vt_tru rfl (v_fnB (f_isi rfl) (c_gl (by decide +kernel)) B.isinstance bt_isinstance (va_Name (v_var (i := 0) rfl (c_vloc (by decide +kernel))) (va_Name (v_ty (c_gl (by decide +kernel)) B.bool bt_bool) va_nil)))))))) (fun cl C s H fp pins => v_var (i := 0) rfl (c_vloc (by decide +kernel)))) (v_lst va_nil) (nomark _)) (vs_one (vs_ret (v_bl))) (vs_nil))
  (vs_one (vs_ret (v_and (v_cmp o_gt (v_ix (o_ix rfl) (v_var (i := 0) rfl (Or.inl lk_l_is_fraction__law_found)) (v_int) (fun _ _ => rfl)) (v_int) (nomark _)) (v_one (v_cmp (o_eq rfl hu) (v_call rfl (ok_l_lowest A B) (hr.mono (by decide)) lk_l_is_fraction__law_lowest A.D_l_lowest.m A.D_l_lowest.F.kp A.D_l_lowest.b passes_fn (va_Subscript (v_ix (o_ix rfl) (v_var (i := 0) rfl (Or.inl lk_l_is_fraction__law_found)) (v_int) (fun _ _ => rfl)) (va_Subscript (v_ix (o_ix rfl) (v_var (i := 0) rfl (Or.inl lk_l_is_fraction__law_found)) (v_int) (fun _ _ => rfl)) va_nil))) (v_var (i := 0) rfl (Or.inl lk_l_is_fraction__law_found)) (nomark _)))))))
def b_l_same : Sv :=
  vRet (vAndV (vCall C_l_is_fraction [vVar 0]) (vOp wEq (vCall C_l_order [vVar 0, vVar 1]) (vC (.int 0))))
def C_l_same : Ct := fun ts P => ∃ a d j k, ts = [encF a, encF d] /\ Gd j a /\ Fb k d /\ 0 < d.2 /\ j <= 7000 /\ k <= 7000 /\ qv a = qv d /\ P (.ok (.va (.bl true)))
theorem sc_l_same : FnScope ["_law_found", "_law_due"] ["_law_found", "_law_due"] (defScope s_l_same) := ⟨rfl, rfl, rfl, by decide +kernel, rfl, by decide +kernel, by decide +kernel⟩
theorem lk_l_same__law_found : Lk s_l_same "_law_found" .local := by decide +kernel
theorem lk_l_same__law_due : Lk s_l_same "_law_due" .local := by decide +kernel
theorem lk_l_same__law_is_fraction : Lk s_l_same "_law_is_fraction" .globalImplicit := by decide +kernel
theorem lk_l_same__law_order : Lk s_l_same "_law_order" .globalImplicit := by decide +kernel
theorem len_l_same : ∀ ts Q, C_l_same ts Q -> ts.length = 2 := fun ts Q ⟨_, _, _, _, e, _⟩ => by rw [e]; rfl
theorem nice_l_same : ∀ ts Q, C_l_same ts Q -> bodyC 2 b_l_same ts Q := by
  rintro _ Q ⟨a, d, j, k, rfl, ga, fd, hd, hj, hk, e, q⟩
  have xa := ga.m (show j <= 100000 by omega)
  have e' := (qv_eq ga.1.pos hd).mp e
  refine ⟨a, j, rfl, ga, hj, ⟨xa.1, fd.m2 (by omega)⟩, ⟨fd.m1 (by omega), xa.2⟩, ?_⟩
  show Q (.ok (.va (.bl (decide (a.1 * d.2 - d.1 * a.2 = 0)))))
  rw [show decide (a.1 * d.2 - d.1 * a.2 = 0) = true from decide_eq_true (by omega)]
  exact q
theorem ok_l_same (A : AllD K mg) (B : Blt mg) : FnOk P w K mg base (CXF P w) 3 A.f_l_same A.d_l_same ["_law_found", "_law_due"] (spV K C_l_same) :=
  fn_V A.D_l_same.F sc_l_same b_l_same len_l_same nice_l_same fun cdv A_ outer s H E hr => have hu := hr.units
  vs_one (vs_ret (v_and (v_call rfl (ok_l_is_fraction A B) (hr.mono (by decide)) lk_l_same__law_is_fraction A.D_l_is_fraction.m A.D_l_is_fraction.F.kp A.D_l_is_fraction.b passes_fn (va_Name (v_var (i := 0) rfl (Or.inl lk_l_same__law_found)) va_nil)) (v_one (v_cmp (o_eq rfl hu) (v_call rfl (ok_l_order A B) (hr.mono (by decide)) lk_l_same__law_order A.D_l_order.m A.D_l_order.F.kp A.D_l_order.b passes_fn (va_Name (v_var (i := 0) rfl (Or.inl lk_l_same__law_found)) (va_Name (v_var (i := 1) rfl (Or.inl lk_l_same__law_due)) va_nil))) (v_int) (nomark _)))))
def b_l_worth_2 : Sv := vRet (vVar 3)
def b_l_worth_1s : Sv := vFor (vSeqI (vVar 1)) (gT [4, 5]) (vSet 3 (vCall C_l_plus [vVar 3, vCall C_l_times [vVar 5, vOp wIx (vVar 2) (vVar 4)]]))
def b_l_worth_1 : Sv := vSeq b_l_worth_1s b_l_worth_2
def b_l_worth_0s : Sv := vSet 3 (vVar 0)
def b_l_worth : Sv :=
  vSeq b_l_worth_0s b_l_worth_1
def C_l_worth : Ct := fun ts P => ∃ c ps vals w kp kv j, ts = [encF c, encP ps, w] /\ isSq w (encVs vals) /\ (∀ x ∈ vals, Gd kv x) /\ (∀ m ∈ ps, Gd kp m.2 /\ 0 <= m.1 /\ m.1 < vals.length) /\ Fb j c /\ 0 < c.2 /\ j + (kp + kv + 1) * (ps.length + 1) <= 6000 /\ P (.ok (.va (encF (lwF vals c ps))))
theorem sc_l_worth : FnScope ["_law_constant", "_law_pairs_here", "_law_values", "_law_found", "_law_number", "_law_part"] ["_law_constant", "_law_pairs_here", "_law_values"] (defScope s_l_worth) := ⟨rfl, rfl, rfl, by decide +kernel, rfl, by decide +kernel, by decide +kernel⟩
theorem lk_l_worth__law_constant : Lk s_l_worth "_law_constant" .local := by decide +kernel
theorem lk_l_worth__law_pairs_here : Lk s_l_worth "_law_pairs_here" .local := by decide +kernel
theorem lk_l_worth__law_values : Lk s_l_worth "_law_values" .local := by decide +kernel
theorem lk_l_worth__law_found : Lk s_l_worth "_law_found" .local := by decide +kernel
theorem lk_l_worth__law_number : Lk s_l_worth "_law_number" .local := by decide +kernel
theorem lk_l_worth__law_part : Lk s_l_worth "_law_part" .local := by decide +kernel
theorem lk_l_worth__law_plus : Lk s_l_worth "_law_plus" .globalImplicit := by decide +kernel
theorem lk_l_worth__law_times : Lk s_l_worth "_law_times" .globalImplicit := by decide +kernel
theorem len_l_worth : ∀ ts Q, C_l_worth ts Q -> ts.length = 3 := fun ts Q ⟨_, _, _, _, _, _, _, e, _⟩ => by rw [e]; rfl
theorem nice_l_worth : ∀ ts Q, C_l_worth ts Q -> bodyC 6 b_l_worth ts Q := by
  rintro _ Q ⟨c, ps, vals, w, kp, kv, j, rfl, hw, gv, hp, gc, cp, hb, q⟩
  refine forW_by (fun i ρ => ∃ c' a b, ρ = [.va (encF c), .va (encP ps), .va w, .va (encF c'), a, b] /\ lwF vals c' (ps.drop i) = lwF vals c ps /\ Fb (j + (kp + kv + 1) * i) c') ⟨c, .un, .un, rfl, rfl, gc⟩ (fun i x ρ e hi K k => ?_) fun ρ hi => ?_
  · obtain ⟨c', a, b, rfl, ew, gc'⟩ := hi
    rw [List.getElem?_map] at e
    obtain ⟨m, hm, rfl⟩ := Option.map_eq_some_iff.mp e
    have hi : i < ps.length := (List.getElem?_eq_some_iff.mp hm).1
    obtain ⟨g1, h0, h1⟩ := hp m (List.mem_of_getElem? hm)
    have g2 := gv _ (valAt_mem h0 h1)
    have hmul : (kp + kv + 1) * (i + 1) <= (kp + kv + 1) * (ps.length + 1) := Nat.mul_le_mul_left _ (by omega)
    rw [Nat.mul_succ] at hmul
    have hk0 : kp + kv + 1 <= (kp + kv + 1) * (ps.length + 1) := Nat.le_mul_of_pos_right _ (by omega)
    have f3 := rTi_fb g1.2 g2.2
    have b1 := g1.m (show kp <= 100000 by omega)
    have b2 := g2.m (show kv <= 100000 by omega)
    refine ⟨_, rfl, sq_ix hw h0 (enc_at h0 h1) ⟨⟨b1.1, b2.1⟩, ⟨b1.2, b2.2⟩, ⟨gc'.m1 (by omega), f3.m2 (by omega)⟩, ⟨f3.m1 (by omega), gc'.m2 (by omega)⟩, ⟨gc'.m2 (by omega), f3.m2 (by omega)⟩, k _ ⟨rPl c' (rTi m.2 (valAt vals m.1)), _, _, rfl, ?_, ?_⟩⟩⟩
    · rw [← ew, List.drop_eq_getElem_cons hi, show ps[i] = m from Option.some.inj ((List.getElem?_eq_getElem hi).symm.trans hm)]
      rfl
    · rw [Nat.mul_succ]
      exact (rPl_fb gc' f3).mono (by omega)
  · obtain ⟨c', a, b, rfl, ew, gc'⟩ := hi
    rw [List.length_map, List.drop_length] at ew
    have ew : c' = lwF vals c ps := ew
    rw [← ew] at q
    exact q
theorem ok_l_worth (A : AllD K mg) (B : Blt mg) : FnOk P w K mg base (CXF P w) 2 A.f_l_worth A.d_l_worth ["_law_constant", "_law_pairs_here", "_law_values"] (spV K C_l_worth) :=
  fn_V A.D_l_worth.F sc_l_worth b_l_worth len_l_worth nice_l_worth fun cdv A_ outer s H E hr => have hu := hr.units
  vs_cons (vs_set (i := 3) sc_l_worth.nd rfl (Or.inl lk_l_worth__law_found) (v_var (i := 0) rfl (Or.inl lk_l_worth__law_constant)))
  (vs_cons (vs_for pown_fn rfl (vi_seq rfl (v_var (i := 1) rfl (Or.inl lk_l_worth__law_pairs_here))) (pg_tupK rfl rfl (vgs_cons (i := 4) sc_l_worth.nd rfl (Or.inl lk_l_worth__law_number) (.inl rfl) (vgs_cons (i := 5) sc_l_worth.nd rfl (Or.inl lk_l_worth__law_part) (.inl rfl) (vgs_nil)))) (tg_tup rfl) (vs_one (vs_set (i := 3) sc_l_worth.nd rfl (Or.inl lk_l_worth__law_found) (v_call rfl (ok_l_plus A B) (hr.mono (by decide)) lk_l_worth__law_plus A.D_l_plus.m A.D_l_plus.F.kp A.D_l_plus.b passes_fn (va_Name (v_var (i := 3) rfl (Or.inl lk_l_worth__law_found)) (va_Call (v_call rfl (ok_l_times A B) (hr.mono (by decide)) lk_l_worth__law_times A.D_l_times.m A.D_l_times.F.kp A.D_l_times.b passes_fn (va_Name (v_var (i := 5) rfl (Or.inl lk_l_worth__law_part)) (va_Subscript (v_ix (o_ix rfl) (v_var (i := 2) rfl (Or.inl lk_l_worth__law_values)) (v_var (i := 4) rfl (Or.inl lk_l_worth__law_number)) (fun _ _ => rfl)) va_nil))) va_nil))))))
  (vs_one (vs_ret (v_var (i := 3) rfl (Or.inl lk_l_worth__law_found)))))
def b_l_unknown_8 : Sv := vRet (vTup [vOp wIx (vLst [vC (.str "x"), vC (.str "y(a)"), vC (.str "y(b)"), vC (.str "z(a, b)")]) (vVar 1), vVar 8, vVar 9, vVar 10])
def b_l_unknown_7s : Sv := vAsg (gT [8, 9, 10]) (vOp wIx (vVar 6) (vUn (wModC 8) (vVar 0)))
def b_l_unknown_7 : Sv := vSeq b_l_unknown_7s b_l_unknown_8
def b_l_unknown_6s : Sv := vSet 6 (vOp wAdd (vVar 6) (vOp wMul (vLst [vTup [vC (.bl false), vVar 2, vCall C_l_lowest [vOp wIx (vVar 7) (vC (.int 0)), vOp wIx (vVar 7) (vC (.int 1))]]]) (vC (.int 3))))
def b_l_unknown_6 : Sv := vSeq b_l_unknown_6s b_l_unknown_7
def b_l_unknown_5s : Sv := vSet 7 (vCall C_l_plus [vVar 2, vVar 5])
def b_l_unknown_5 : Sv := vSeq b_l_unknown_5s b_l_unknown_6
def b_l_unknown_4s : Sv := vSet 6 (vLst [vTup [vC (.bl false), vC .non, vC .non], vTup [vC (.bl false), vVar 2, vC .non], vTup [vC (.bl false), vC .non, vVar 2], vTup [vC (.bl true), vVar 3, vVar 4], vTup [vC (.bl true), vVar 3, vVar 4]])
def b_l_unknown_4 : Sv := vSeq b_l_unknown_4s b_l_unknown_5
def b_l_unknown_3s : Sv := vSet 5 (vOp wIx (vLst [vTup [vC (.int 0), vC (.int 1)], vTup [vUn (wModC 10) (vUn (wDivC 640) (vVar 0)), vC (.int 1)], vCall C_l_lowest [vUn (wModC 1000) (vUn (wDivC 640) (vVar 0)), vOp wAdd (vC (.int 1)) (vUn (wModC 9) (vUn (wDivC 64) (vVar 0)))]]) (vUn (wModC 3) (vUn (wDivC 640) (vVar 0))))
def b_l_unknown_3 : Sv := vSeq b_l_unknown_3s b_l_unknown_4
def b_l_unknown_2s : Sv := vSet 4 (vTup [vOp wAdd (vOp wIx (vVar 3) (vC (.int 0))) (vUn (wModC 101) (vUn (wDivC 640) (vVar 0))), vC (.int 1)])
def b_l_unknown_2 : Sv := vSeq b_l_unknown_2s b_l_unknown_3
def b_l_unknown_1s : Sv := vSet 3 (vTup [vOp wDivB (vOp wIx (vVar 2) (vC (.int 0))) (vOp wIx (vVar 2) (vC (.int 1))), vC (.int 1)])
def b_l_unknown_1 : Sv := vSeq b_l_unknown_1s b_l_unknown_2
def b_l_unknown_0s : Sv := vSet 2 (vCall C_l_fraction [vUn (wDivC 8) (vVar 0)])
def b_l_unknown : Sv :=
  vSeq b_l_unknown_0s b_l_unknown_1
def UnOk (u : Un) : Prop := GdO 60 u.lo /\ GdO 60 u.hi
def C_l_unknown : Ct := fun ts P => ∃ n i : Int, ts = [.int n, .int i] /\ 0 <= n /\ (0 <= i /\ i < 4) /\ ∀ u, UnOk u -> P (.ok (.va (encU u)))
theorem sc_l_unknown : FnScope ["_law_number", "_law_k", "_law_low", "_law_whole", "_law_most", "_law_off", "_law_ends", "_law_more", "_law_is_round", "_law_first", "_law_last"] ["_law_number", "_law_k"] (defScope s_l_unknown) := ⟨rfl, rfl, rfl, by decide +kernel, rfl, by decide +kernel, by decide +kernel⟩
theorem lk_l_unknown__law_number : Lk s_l_unknown "_law_number" .local := by decide +kernel
theorem lk_l_unknown__law_k : Lk s_l_unknown "_law_k" .local := by decide +kernel
theorem lk_l_unknown__law_low : Lk s_l_unknown "_law_low" .local := by decide +kernel
theorem lk_l_unknown__law_whole : Lk s_l_unknown "_law_whole" .local := by decide +kernel
theorem lk_l_unknown__law_most : Lk s_l_unknown "_law_most" .local := by decide +kernel
theorem lk_l_unknown__law_off : Lk s_l_unknown "_law_off" .local := by decide +kernel
theorem lk_l_unknown__law_ends : Lk s_l_unknown "_law_ends" .local := by decide +kernel
theorem lk_l_unknown__law_more : Lk s_l_unknown "_law_more" .local := by decide +kernel
theorem lk_l_unknown__law_is_round : Lk s_l_unknown "_law_is_round" .local := by decide +kernel
theorem lk_l_unknown__law_first : Lk s_l_unknown "_law_first" .local := by decide +kernel
theorem lk_l_unknown__law_last : Lk s_l_unknown "_law_last" .local := by decide +kernel
theorem lk_l_unknown__law_fraction : Lk s_l_unknown "_law_fraction" .globalImplicit := by decide +kernel
theorem lk_l_unknown__law_lowest : Lk s_l_unknown "_law_lowest" .globalImplicit := by decide +kernel
theorem lk_l_unknown__law_plus : Lk s_l_unknown "_law_plus" .globalImplicit := by decide +kernel
theorem len_l_unknown : ∀ ts Q, C_l_unknown ts Q -> ts.length = 2 := fun ts Q ⟨_, _, e, _⟩ => by rw [e]; rfl
theorem gdO_none {k : Nat} : GdO k none := fun a e => by cases e
theorem gdO_some {k : Nat} {a : Fq} (h : Gd k a) : GdO k (some a) := fun b e => by cases e; exact h
theorem int_gd {i : Int} {k : Nat} (h : i.natAbs < 2 ^ k) (hk : 1 <= k) : Gd k (i, 1) := ⟨⟨(show (1 : Int) <= 1 by decide), by show gd i 1 = 1; unfold gd; simp⟩, h, pow_up (j := 1) (show (1 : Int).natAbs < 2 ^ 1 by decide) hk⟩
theorem fdiv_small {a b : Int} {k : Nat} (hb : 0 < b) (h : a.natAbs < 2 ^ k) : (a / b).natAbs < 2 ^ k + 1 := by
  have := Int.natAbs_ediv_le_natAbs a b
  omega
theorem nice_l_unknown : ∀ ts Q, C_l_unknown ts Q -> bodyC 11 b_l_unknown ts Q := by
  rintro _ Q ⟨n, i, rfl, hn, hi, q⟩
  refine ⟨n / 8, rfl, by omega, fun low gl => ?_⟩
  have lp := gl.1.pos
  have ll : low.2.natAbs.log2 < 9000 := log2_of (lt_big gl.2.2 (by decide))
  have b1 := gl.m (show 31 <= 100000 by decide)
  have f1 : (low.1.fdiv low.2).natAbs < 2 ^ 32 := by
    rw [Int.fdiv_eq_ediv_of_nonneg _ (Int.le_of_lt lp)]
    have := fdiv_small lp gl.2.1
    omega
  refine ⟨⟨by omega, ll⟩, _, _, rfl, by omega, lt_big (k := 10) (by omega) (by decide), ?_⟩
  refine ix_mem (by omega) (by show n / 640 % 3 < 3; omega) fun t ht => ?_
  obtain ⟨off, rfl, go⟩ : ∃ off : Fq, t = encF off /\ Gd 10 off := by
    simp only [List.mem_cons, List.not_mem_nil, or_false] at ht
    rcases ht with rfl | rfl | rfl
    · exact ⟨(0, 1), rfl, gd_one (by decide)⟩
    · exact ⟨(n / 640 % 10, 1), rfl, int_gd (by omega) (by decide)⟩
    · exact ⟨_, rfl, mk_gd (by omega) (by omega) (by omega)⟩
  have b2 := go.m (show 10 <= 100000 by decide)
  have mf : Fb 42 (rPl low off) := rPl_fb gl.2 go.2
  have mp : 0 < (rPl low off).2 := Int.mul_pos lp go.1.pos
  refine ⟨⟨b1.1, b2.2⟩, ⟨b2.1, b1.2⟩, ⟨b1.2, b2.2⟩, (rPl low off).1, (rPl low off).2, rfl, mp, lt_big mf.2 (by decide), ⟨by decide, by decide, (show 1 * 3 <= sizeLine by decide)⟩, (show 5 + 3 <= sizeLine by decide), ?_⟩
  have gm : Gd 42 (mkF (rPl low off).1 (rPl low off).2) := mk_gd mp mf.1 mf.2
  refine ix_mem (by omega) (by show n % 8 < 8; omega) fun t ht => ?_
  obtain ⟨w, lo, hi', rfl, g1, g2⟩ : ∃ w lo hi, t = .tup [.bl w, encO lo, encO hi] /\ GdO 60 lo /\ GdO 60 hi := by
    have gl' := gl.mono (show 31 <= 60 by decide)
    have gm' := gm.mono (show 42 <= 60 by decide)
    have gw : Gd 60 (low.1.fdiv low.2, 1) := int_gd (Nat.lt_trans f1 (by decide)) (by decide)
    have gx : Gd 60 (low.1.fdiv low.2 + n / 640 % 101, 1) := int_gd (by omega) (by decide)
    have ht : t ∈ [Tv.tup [.bl false, .non, .non], .tup [.bl false, encF low, .non], .tup [.bl false, .non, encF low], .tup [.bl true, encF (low.1.fdiv low.2, 1), encF (low.1.fdiv low.2 + n / 640 % 101, 1)], .tup [.bl true, encF (low.1.fdiv low.2, 1), encF (low.1.fdiv low.2 + n / 640 % 101, 1)], .tup [.bl false, encF low, encF (mkF (rPl low off).1 (rPl low off).2)], .tup [.bl false, encF low, encF (mkF (rPl low off).1 (rPl low off).2)], .tup [.bl false, encF low, encF (mkF (rPl low off).1 (rPl low off).2)]] := ht
    simp only [List.mem_cons, List.not_mem_nil, or_false] at ht
    rcases ht with rfl | rfl | rfl | rfl | rfl | rfl | rfl | rfl
    · exact ⟨false, none, none, rfl, gdO_none, gdO_none⟩
    · exact ⟨false, some low, none, rfl, gdO_some gl', gdO_none⟩
    · exact ⟨false, none, some low, rfl, gdO_none, gdO_some gl'⟩
    · exact ⟨true, some _, some _, rfl, gdO_some gw, gdO_some gx⟩
    · exact ⟨true, some _, some _, rfl, gdO_some gw, gdO_some gx⟩
    · exact ⟨false, some _, some _, rfl, gdO_some gl', gdO_some gm'⟩
    · exact ⟨false, some _, some _, rfl, gdO_some gl', gdO_some gm'⟩
    · exact ⟨false, some _, some _, rfl, gdO_some gl', gdO_some gm'⟩
  refine ⟨_, rfl, ix_mem hi.1 (by show i < 4; omega) fun t ht => ?_⟩
  obtain ⟨z, rfl⟩ : ∃ z, t = .str z := by
    simp only [List.mem_cons, List.not_mem_nil, or_false] at ht
    rcases ht with rfl | rfl | rfl | rfl <;> exact ⟨_, rfl⟩
  exact q ⟨z, w, lo, hi'⟩ ⟨g1, g2⟩
theorem ok_l_unknown (A : AllD K mg) (B : Blt mg) : FnOk P w K mg base (CXF P w) 3 A.f_l_unknown A.d_l_unknown ["_law_number", "_law_k"] (spV K C_l_unknown) :=
  fn_V A.D_l_unknown.F sc_l_unknown b_l_unknown len_l_unknown nice_l_unknown fun cdv A_ outer s H E hr => have hu := hr.units
  vs_cons (vs_set (i := 2) sc_l_unknown.nd rfl (Or.inl lk_l_unknown__law_low) (v_call rfl (ok_l_fraction A B) (hr.mono (by decide)) lk_l_unknown__law_fraction A.D_l_fraction.m A.D_l_fraction.F.kp A.D_l_fraction.b passes_fn (va_BinOp (v_divC (v_var (i := 0) rfl (Or.inl lk_l_unknown__law_number))) va_nil)))
  (vs_cons (vs_set (i := 3) sc_l_unknown.nd rfl (Or.inl lk_l_unknown__law_whole) (v_tup (va_BinOp (v_op o_divB (v_ix (o_ix rfl) (v_var (i := 2) rfl (Or.inl lk_l_unknown__law_low)) (v_int) (fun _ _ => rfl)) (v_ix (o_ix rfl) (v_var (i := 2) rfl (Or.inl lk_l_unknown__law_low)) (v_int) (fun _ _ => rfl))) (va_Constant (v_int) va_nil))))
  (vs_cons (vs_set (i := 4) sc_l_unknown.nd rfl (Or.inl lk_l_unknown__law_most) (v_tup (va_BinOp (v_op (o_add rfl) (v_ix (o_ix rfl) (v_var (i := 3) rfl (Or.inl lk_l_unknown__law_whole)) (v_int) (fun _ _ => rfl)) (v_modC (v_divC (v_var (i := 0) rfl (Or.inl lk_l_unknown__law_number))))) (va_Constant (v_int) va_nil))))
  (vs_cons (vs_set (i := 5) sc_l_unknown.nd rfl (Or.inl lk_l_unknown__law_off) (v_ix (o_ix rfl) (v_lst (va_Tuple (v_tup (va_Constant (v_int) (va_Constant (v_int) va_nil))) (va_Tuple (v_tup (va_BinOp (v_modC (v_divC (v_var (i := 0) rfl (Or.inl lk_l_unknown__law_number)))) (va_Constant (v_int) va_nil))) (va_Call (v_call rfl (ok_l_lowest A B) (hr.mono (by decide)) lk_l_unknown__law_lowest A.D_l_lowest.m A.D_l_lowest.F.kp A.D_l_lowest.b passes_fn (va_BinOp (v_modC (v_divC (v_var (i := 0) rfl (Or.inl lk_l_unknown__law_number)))) (va_BinOp (v_op (o_add rfl) (v_int) (v_modC (v_divC (v_var (i := 0) rfl (Or.inl lk_l_unknown__law_number))))) va_nil))) va_nil)))) (v_modC (v_divC (v_var (i := 0) rfl (Or.inl lk_l_unknown__law_number)))) (fun _ _ => rfl)))
  (vs_cons (vs_set (i := 6) sc_l_unknown.nd rfl (Or.inl lk_l_unknown__law_ends) (v_lst (va_Tuple (v_tup (va_Constant (v_bl) (va_Constant (v_non) (va_Constant (v_non) va_nil)))) (va_Tuple (v_tup (va_Constant (v_bl) (va_Name (v_var (i := 2) rfl (Or.inl lk_l_unknown__law_low)) (va_Constant (v_non) va_nil)))) (va_Tuple (v_tup (va_Constant (v_bl) (va_Constant (v_non) (va_Name (v_var (i := 2) rfl (Or.inl lk_l_unknown__law_low)) va_nil)))) (va_Tuple (v_tup (va_Constant (v_bl) (va_Name (v_var (i := 3) rfl (Or.inl lk_l_unknown__law_whole)) (va_Name (v_var (i := 4) rfl (Or.inl lk_l_unknown__law_most)) va_nil)))) (va_Tuple (v_tup (va_Constant (v_bl) (va_Name (v_var (i := 3) rfl (Or.inl lk_l_unknown__law_whole)) (va_Name (v_var (i := 4) rfl (Or.inl lk_l_unknown__law_most)) va_nil)))) va_nil)))))))
  (vs_cons (vs_set (i := 7) sc_l_unknown.nd rfl (Or.inl lk_l_unknown__law_more) (v_call rfl (ok_l_plus A B) (hr.mono (by decide)) lk_l_unknown__law_plus A.D_l_plus.m A.D_l_plus.F.kp A.D_l_plus.b passes_fn (va_Name (v_var (i := 2) rfl (Or.inl lk_l_unknown__law_low)) (va_Name (v_var (i := 5) rfl (Or.inl lk_l_unknown__law_off)) va_nil))))
  (vs_cons (vs_set (i := 6) sc_l_unknown.nd rfl (Or.inl lk_l_unknown__law_ends) (v_op (o_add rfl) (v_var (i := 6) rfl (Or.inl lk_l_unknown__law_ends)) (v_op o_mul (v_lst (va_Tuple (v_tup (va_Constant (v_bl) (va_Name (v_var (i := 2) rfl (Or.inl lk_l_unknown__law_low)) (va_Call (v_call rfl (ok_l_lowest A B) (hr.mono (by decide)) lk_l_unknown__law_lowest A.D_l_lowest.m A.D_l_lowest.F.kp A.D_l_lowest.b passes_fn (va_Subscript (v_ix (o_ix rfl) (v_var (i := 7) rfl (Or.inl lk_l_unknown__law_more)) (v_int) (fun _ _ => rfl)) (va_Subscript (v_ix (o_ix rfl) (v_var (i := 7) rfl (Or.inl lk_l_unknown__law_more)) (v_int) (fun _ _ => rfl)) va_nil))) va_nil)))) va_nil)) (v_int))))
  (vs_cons (vs_asg (v_ix (o_ix rfl) (v_var (i := 6) rfl (Or.inl lk_l_unknown__law_ends)) (v_modC (v_var (i := 0) rfl (Or.inl lk_l_unknown__law_number))) (fun _ _ => rfl)) (pg_tupK rfl rfl (vgs_cons (i := 8) sc_l_unknown.nd rfl (Or.inl lk_l_unknown__law_is_round) (.inl rfl) (vgs_cons (i := 9) sc_l_unknown.nd rfl (Or.inl lk_l_unknown__law_first) (.inl rfl) (vgs_cons (i := 10) sc_l_unknown.nd rfl (Or.inl lk_l_unknown__law_last) (.inl rfl) (vgs_nil))))) (tg_tup rfl))
  (vs_one (vs_ret (v_tup (va_Subscript (v_ix (o_ix rfl) (v_lst (va_Constant (v_str) (va_Constant (v_str) (va_Constant (v_str) (va_Constant (v_str) va_nil))))) (v_var (i := 1) rfl (Or.inl lk_l_unknown__law_k)) (fun _ _ => rfl)) (va_Name (v_var (i := 8) rfl (Or.inl lk_l_unknown__law_is_round)) (va_Name (v_var (i := 9) rfl (Or.inl lk_l_unknown__law_first)) (va_Name (v_var (i := 10) rfl (Or.inl lk_l_unknown__law_last)) va_nil))))))))))))))
end
end Pw
set_option Elab.async false
set_option linter.all false
set_option maxRecDepth 100000
set_option maxHeartbeats 4000000
namespace Pw
open PySem L2
seal PE PT PW PA PS PSs PG PGs PI PIf PO
section
variable {P : Program} {w : World} {K : PySem.W.Frag} {mg : Str -> Option Value} {base : Heap} {f : Addr} {fd : FuncData}
def b_sign_2 : Sv := vRet (vC (.int 0))
def b_sign_1s : Sv := vIfS (vCmp wLt (vOp wIx (vVar 0) (vC (.int 0))) (vC (.int 0))) (vRet (vUn wNeg (vC (.int 1)))) (vNext)
def b_sign_1 : Sv := vSeq b_sign_1s b_sign_2
def b_sign_0s : Sv := vIfS (vCmp wGt (vOp wIx (vVar 0) (vC (.int 0))) (vC (.int 0))) (vRet (vC (.int 1))) (vNext)
def b_sign : Sv :=
  vSeq b_sign_0s b_sign_1
def sgF (a : Fq) : Int := if 0 < a.1 then 1 else if a.1 < 0 then -1 else 0
def C_sign : Ct := fun ts P => ∃ a, ts = [encF a] /\ P (.ok (.va (.int (sgF a))))
theorem sc_sign : FnScope ["one"] ["one"] (defScope s_sign) := ⟨rfl, rfl, rfl, by decide +kernel, rfl, by decide +kernel, by decide +kernel⟩
theorem lk_sign_one : Lk s_sign "one" .local := by decide +kernel
theorem len_sign : ∀ ts Q, C_sign ts Q -> ts.length = 1 := fun ts Q ⟨_, e, _⟩ => by rw [e]; rfl
theorem nice_sign : ∀ ts Q, C_sign ts Q -> bodyC 1 b_sign ts Q := by
  rintro _ Q ⟨a, rfl, q⟩
  unfold sgF at q
  refine ite_go (fun c1 => ?_) fun c1 => ?_
  · rw [if_pos (of_decide_eq_true c1)] at q
    exact q
  rw [if_neg (of_decide_eq_false c1)] at q
  refine ite_go (fun c2 => ?_) fun c2 => ?_
  · rw [if_pos (of_decide_eq_true c2)] at q
    exact q
  rw [if_neg (of_decide_eq_false c2)] at q
  exact q
theorem ok_sign (A : AllD K mg) (B : Blt mg) : FnOk P w K mg base (CXF P w) 1 A.f_sign A.d_sign ["one"] (spV K C_sign) :=
  fn_V A.D_sign.F sc_sign b_sign len_sign nice_sign fun cdv A_ outer s H E hr => have hu := hr.units
  vs_cons (vs_if (vt_cmp o_gt (v_ix (o_ix rfl) (v_var (i := 0) rfl (Or.inl lk_sign_one)) (v_int) (fun _ _ => rfl)) (v_int) (nomark _)) (vs_one (vs_ret (v_int))) (vs_nil))
  (vs_cons (vs_if (vt_cmp o_lt (v_ix (o_ix rfl) (v_var (i := 0) rfl (Or.inl lk_sign_one)) (v_int) (fun _ _ => rfl)) (v_int) (nomark _)) (vs_one (vs_ret (v_un o_neg (v_int)))) (vs_nil))
  (vs_one (vs_ret (v_int))))
def b_goes_with_2 : Sv := vRet (vC (.bl true))
def b_goes_with_1s : Sv := vIfS (vCmp wEq (vVar 1) (vC (.str ">="))) (vRet (vOp wGe (vVar 0) (vC (.int 0)))) (vNext)
def b_goes_with_1 : Sv := vSeq b_goes_with_1s b_goes_with_2
def b_goes_with_0s : Sv := vIfS (vCmp wEq (vVar 1) (vC (.str "<="))) (vRet (vOp wLe (vVar 0) (vC (.int 0)))) (vNext)
def b_goes_with : Sv :=
  vSeq b_goes_with_0s b_goes_with_1
def gwB (s : Int) (m : Str) : Bool := if m = "<=" then decide (s <= 0) else if m = ">=" then decide (0 <= s) else true
def C_goes_with : Ct := fun ts P => ∃ s m, ts = [.int s, .str m] /\ P (.ok (.va (.bl (gwB s m))))
theorem sc_goes_with : FnScope ["price_sign", "mark"] ["price_sign", "mark"] (defScope s_goes_with) := ⟨rfl, rfl, rfl, by decide +kernel, rfl, by decide +kernel, by decide +kernel⟩
theorem lk_goes_with_price_sign : Lk s_goes_with "price_sign" .local := by decide +kernel
theorem lk_goes_with_mark : Lk s_goes_with "mark" .local := by decide +kernel
theorem len_goes_with : ∀ ts Q, C_goes_with ts Q -> ts.length = 2 := fun ts Q ⟨_, _, e, _⟩ => by rw [e]; rfl
theorem nice_goes_with : ∀ ts Q, C_goes_with ts Q -> bodyC 2 b_goes_with ts Q := by
  rintro _ Q ⟨s, m, rfl, q⟩
  unfold gwB at q
  refine ite_go (fun c1 => ?_) fun c1 => ?_
  · rw [if_pos (of_decide_eq_true c1)] at q
    exact q
  rw [if_neg (of_decide_eq_false c1)] at q
  refine ite_go (fun c2 => ?_) fun c2 => ?_
  · rw [if_pos (of_decide_eq_true c2)] at q
    exact q
  rw [if_neg (of_decide_eq_false c2)] at q
  exact q
theorem ok_goes_with (A : AllD K mg) (B : Blt mg) : FnOk P w K mg base (CXF P w) 1 A.f_goes_with A.d_goes_with ["price_sign", "mark"] (spV K C_goes_with) :=
  fn_V A.D_goes_with.F sc_goes_with b_goes_with len_goes_with nice_goes_with fun cdv A_ outer s H E hr => have hu := hr.units
  vs_cons (vs_if (vt_cmp (o_eq rfl hu) (v_var (i := 1) rfl (Or.inl lk_goes_with_mark)) (v_str) (nomark _)) (vs_one (vs_ret (v_cmp o_le (v_var (i := 0) rfl (Or.inl lk_goes_with_price_sign)) (v_int) (nomark _)))) (vs_nil))
  (vs_cons (vs_if (vt_cmp (o_eq rfl hu) (v_var (i := 1) rfl (Or.inl lk_goes_with_mark)) (v_str) (nomark _)) (vs_one (vs_ret (v_cmp o_ge (v_var (i := 0) rfl (Or.inl lk_goes_with_price_sign)) (v_int) (nomark _)))) (vs_nil))
  (vs_one (vs_ret (v_bl))))
def b_end_for : Sv :=
  vSeq (vIfS (vCmp wGt (vCall C_sign [vVar 1]) (vC (.int 0))) (vRet (vOp wIx (vVar 0) (vC (.int 2)))) (vNext))
  (vRet (vOp wIx (vVar 0) (vC (.int 3))))
def endF (u : Un) (a : Fq) : Option Fq := if 0 < a.1 then u.lo else u.hi
def C_end_for : Ct := fun ts P => ∃ u a, ts = [encU u, encF a] /\ P (.ok (.va (encO (endF u a))))
theorem sc_end_for : FnScope ["unknown", "part"] ["unknown", "part"] (defScope s_end_for) := ⟨rfl, rfl, rfl, by decide +kernel, rfl, by decide +kernel, by decide +kernel⟩
theorem lk_end_for_unknown : Lk s_end_for "unknown" .local := by decide +kernel
theorem lk_end_for_part : Lk s_end_for "part" .local := by decide +kernel
theorem lk_end_for_sign : Lk s_end_for "sign" .globalImplicit := by decide +kernel
theorem len_end_for : ∀ ts Q, C_end_for ts Q -> ts.length = 2 := fun ts Q ⟨_, _, e, _⟩ => by rw [e]; rfl
theorem sg_pos {a : Fq} : 0 < sgF a ↔ 0 < a.1 := by
  unfold sgF
  split
  · omega
  · split <;> omega
theorem nice_end_for : ∀ ts Q, C_end_for ts Q -> bodyC 2 b_end_for ts Q := by
  rintro _ Q ⟨u, a, rfl, q⟩
  unfold endF at q
  refine ⟨a, rfl, ite_go (fun c1 => ?_) fun c1 => ?_⟩
  · rw [if_pos (sg_pos.mp (of_decide_eq_true c1))] at q
    exact q
  rw [if_neg (fun z => of_decide_eq_false c1 (sg_pos.mpr z))] at q
  exact q
theorem ok_end_for (A : AllD K mg) (B : Blt mg) : FnOk P w K mg base (CXF P w) 2 A.f_end_for A.d_end_for ["unknown", "part"] (spV K C_end_for) :=
  fn_V A.D_end_for.F sc_end_for b_end_for len_end_for nice_end_for fun cdv A_ outer s H E hr => have hu := hr.units
  vs_cons (vs_if (vt_cmp o_gt (v_call rfl (ok_sign A B) (hr.mono (by decide)) lk_end_for_sign A.D_sign.m A.D_sign.F.kp A.D_sign.b passes_fn (va_Name (v_var (i := 1) rfl (Or.inl lk_end_for_part)) va_nil)) (v_int) (nomark _)) (vs_one (vs_ret (v_ix (o_ix rfl) (v_var (i := 0) rfl (Or.inl lk_end_for_unknown)) (v_int) (fun _ _ => rfl)))) (vs_nil))
  (vs_one (vs_ret (v_ix (o_ix rfl) (v_var (i := 0) rfl (Or.inl lk_end_for_unknown)) (v_int) (fun _ _ => rfl))))
def b_plain : Sv :=
  vRet (vTup [vVar 0, vTup []])
def C_plain : Ct := fun ts P => ∃ x, ts = [x] /\ P (.ok (.va (.tup [x, .tup []])))
theorem sc_plain : FnScope ["one"] ["one"] (defScope s_plain) := ⟨rfl, rfl, rfl, by decide +kernel, rfl, by decide +kernel, by decide +kernel⟩
theorem lk_plain_one : Lk s_plain "one" .local := by decide +kernel
theorem len_plain : ∀ ts Q, C_plain ts Q -> ts.length = 1 := fun ts Q ⟨_, e, _⟩ => by rw [e]; rfl
theorem nice_plain : ∀ ts Q, C_plain ts Q -> bodyC 1 b_plain ts Q := by
  rintro _ Q ⟨x, rfl, q⟩
  exact q
theorem ok_plain (A : AllD K mg) (B : Blt mg) : FnOk P w K mg base (CXF P w) 1 A.f_plain A.d_plain ["one"] (spV K C_plain) :=
  fn_V A.D_plain.F sc_plain b_plain len_plain nice_plain fun cdv A_ outer s H E hr => have hu := hr.units
  vs_one (vs_ret (v_tup (va_Name (v_var (i := 0) rfl (Or.inl lk_plain_one)) (va_Tuple (v_tup va_nil) va_nil))))
end
end Pw
set_option Elab.async false
set_option linter.all false
set_option maxRecDepth 100000
set_option maxHeartbeats 4000000
namespace Pw
open PySem L2
seal PE PT PW PA PS PSs PG PGs PI PIf PO
section
variable {P : Program} {w : World} {K : PySem.W.Frag} {mg : Str -> Option Value} {base : Heap} {f : Addr} {fd : FuncData}
def b_scaled : Sv :=
  vSeq (vIfS (vCmp wEq (vCall C_sign [vVar 1]) (vC (.int 0))) (vRet (vCall C_plain [vC (.tup [.int 0, .int 1])])) (vNext))
  (vRet (vTup [vCall (C_bin tiF) [vOp wIx (vVar 0) (vC (.int 0)), vVar 1], vFn wTuple [vComp 2 [1] (vSeqI (vOp wIx (vVar 0) (vC (.int 1)))) (gT [0, 1]) (vYes) (vTup [vVar 0, vCall (C_bin tiF) [vVar 1, vVar 2]])]]))
def scP (ps : Pq) (a : Fq) : Pq := if a.1 = 0 then [] else ps.map fun m => (m.1, tiF m.2 a)
theorem sg_zero {a : Fq} : sgF a = 0 ↔ a.1 = 0 := by
  unfold sgF
  split
  · omega
  · split <;> omega
def C_scaled : Ct := fun ts P => ∃ c ps a k, ts = [.tup [encF c, encP ps], encF a] /\ Gd k c /\ Gd k a /\ (∀ m ∈ ps, Gd k m.2) /\ k <= 3000 /\ ps.length <= 100 /\ P (.ok (.va (.tup [encF (if a.1 = 0 then (0, 1) else tiF c a), encP (scP ps a)])))
theorem sc_scaled : FnScope ["one", "part"] ["one", "part"] (defScope s_scaled) := ⟨rfl, rfl, rfl, by decide +kernel, rfl, by decide +kernel, by decide +kernel⟩
theorem lk_scaled_one : Lk s_scaled "one" .local := by decide +kernel
theorem lk_scaled_part : Lk s_scaled "part" .cell := by decide +kernel
theorem lk_scaled_NOUGHT : Lk s_scaled "NOUGHT" .globalImplicit := by decide +kernel
theorem lk_scaled_plain : Lk s_scaled "plain" .globalImplicit := by decide +kernel
theorem lk_scaled_sign : Lk s_scaled "sign" .globalImplicit := by decide +kernel
theorem lk_scaled_times : Lk s_scaled "times" .globalImplicit := by decide +kernel
theorem lk_scaled_tuple : Lk s_scaled "tuple" .globalImplicit := by decide +kernel
theorem len_scaled : ∀ ts Q, C_scaled ts Q -> ts.length = 2 := fun ts Q ⟨_, _, _, _, e, _⟩ => by rw [e]; rfl
theorem nice_scaled : ∀ ts Q, C_scaled ts Q -> bodyC 2 b_scaled ts Q := by
  rintro _ Q ⟨c, ps, a, k, rfl, gc, ga, gp, hk, hl, q⟩
  unfold scP at q
  refine ⟨a, rfl, ite_go (fun c1 => ?_) fun c1 => ?_⟩
  · have c2 : a.1 = 0 := sg_zero.mp (by simpa using c1)
    rw [if_pos c2, if_pos c2] at q
    exact ⟨_, rfl, q⟩
  have c2 : ¬ a.1 = 0 := fun z => by simp [sg_zero.mpr z] at c1
  rw [if_neg c2, if_neg c2] at q
  refine ⟨c, a, k, k, rfl, gc, ga, by omega, few_line (by rw [List.length_map]; omega), ?_⟩
  unfold encP at q ⊢
  rw [List.map_map] at q
  refine compW_enc _ _ (fun m hm Ky Kn kk => ?_) q
  exact ⟨_, rfl, rfl, m.2, a, k, k, rfl, gp m hm, ga, by omega, rfl, kk⟩
theorem ok_scaled (A : AllD K mg) (B : Blt mg) : FnOk P w K mg base (CXF P w) 5 A.f_scaled A.d_scaled ["one", "part"] (spV K C_scaled) :=
  fn_V A.D_scaled.F sc_scaled b_scaled len_scaled nice_scaled fun cdv A_ outer s H E hr => have hu := hr.units
  vs_cons (vs_if (vt_cmp (o_eq rfl hu) (v_call rfl (ok_sign A B) (hr.mono (by decide)) lk_scaled_sign A.D_sign.m A.D_sign.F.kp A.D_sign.b passes_fn (va_Name (v_var (i := 1) rfl (Or.inr (Or.inl lk_scaled_part))) va_nil)) (v_int) (nomark _)) (vs_one (vs_ret (v_call rfl (ok_plain A B) (hr.mono (by decide)) lk_scaled_plain A.D_plain.m A.D_plain.F.kp A.D_plain.b passes_fn (va_Name (v_glob (v := .ref A.a_NOUGHT) lk_scaled_NOUGHT A.m_NOUGHT rfl A.r_NOUGHT) va_nil)))) (vs_nil))
  (vs_one (vs_ret (v_tup (va_Call (v_call rfl (ok_times A B) (hr.mono (by decide)) lk_scaled_times A.D_times.m A.D_times.F.kp A.D_times.b passes_fn (va_Subscript (v_ix (o_ix rfl) (v_var (i := 0) rfl (Or.inl lk_scaled_one)) (v_int) (fun _ _ => rfl)) (va_Name (v_var (i := 1) rfl (Or.inr (Or.inl lk_scaled_part))) va_nil))) (va_Call (v_fnT (f_tuple rfl) lk_scaled_tuple B.tuple bt_tuple (va_ListComp (v_comp rfl (frees_of ["number", "held"] [("part", 1)] ["one", "part"] (by decide +kernel)) (visC s_scaled (by decide +kernel)) (by decide +kernel) rfl (by decide +kernel) (fun y hy => PySem.mem_of_lookup hy) rfl (tg_tup rfl) (keeps_tup (by decide)) noOw_tup (vi_seq rfl (v_ix (o_ix rfl) (v_var (i := 0) rfl (Or.inl lk_scaled_one)) (v_int) (fun _ _ => rfl))) (fun cl C s H fp pins => pg_tupK rfl rfl (vgs_cons (i := 0) (show (["number", "held", "part"] : List Str).Nodup by decide +kernel) rfl (Or.inl (c_loc (by decide +kernel))) (.inr (c_loc (by decide +kernel))) (vgs_cons (i := 1) (show (["number", "held", "part"] : List Str).Nodup by decide +kernel) rfl (Or.inl (c_loc (by decide +kernel))) (.inr (c_loc (by decide +kernel))) (vgs_nil)))) (fun cl C s H fp pins => vif_nil) (fun cl C s H fp pins => v_tup (va_Name (v_var (i := 0) rfl (c_vloc (by decide +kernel))) (va_Call (v_call rfl (ok_times A B) (hr.mono (by decide)) (c_gl (by decide +kernel)) A.D_times.m A.D_times.F.kp A.D_times.b passE0 (va_Name (v_var (i := 1) rfl (c_vloc (by decide +kernel))) (va_Name (v_var (i := 2) rfl (c_free (by decide +kernel))) va_nil))) va_nil)))) va_nil)) va_nil)))))
end
end Pw
set_option Elab.async false
set_option linter.all false
set_option maxRecDepth 100000
set_option maxHeartbeats 4000000
namespace Pw
open PySem L2
seal PE PT PW PA PS PSs PG PGs PI PIf PO
section
variable {P : Program} {w : World} {K : PySem.W.Frag} {mg : Str -> Option Value} {base : Heap} {f : Addr} {fd : FuncData}
def b_pairs_of : Sv :=
  vRet (vFn wTuple [vComp 1 [0] (vSeqI (vFn wSortD [vVar 0])) (gV 0) (vCmp wNe (vCall C_sign [vOp wDIx (vVar 1) (vVar 0)]) (vC (.int 0))) (vTup [vVar 0, vOp wDIx (vVar 1) (vVar 0)])])
def look (d : Pq) (n : Int) : Fq := (d.lookup n).getD (0, 1)
def encD (d : Pq) : Tv := .dic (d.map fun m => Sum.inl m.1) (d.map fun m => encF m.2)
def ofD (d : Pq) : Pq := ((PySem.W.sortI (d.map (·.1))).filter fun n => !decide ((look d n).1 = 0)).map fun n => (n, look d n)
def C_pairs_of : Ct := fun ts P => ∃ d : Pq, ts = [encD d] /\ d.length < 64 /\ P (.ok (.va (encP (ofD d))))
theorem val_look : ∀ {d : Pq} {n : Int}, n ∈ d.map (·.1) -> valT ((d.map fun m => (Sum.inl m.1 : Key)).zip (d.map fun m => encF m.2)) (.inl n) = some (encF (look d n))
  | [], n, h => by cases h
  | m :: d, n, h => by
    rw [List.map_cons, List.map_cons, List.zip_cons_cons]
    unfold valT look
    rw [List.find?_cons, List.lookup_cons]
    by_cases e : m.1 = n
    · subst e; simp
    · have h' : n ∈ d.map (·.1) := by
        rw [List.map_cons] at h
        rcases List.mem_cons.mp h with h | h
        · exact absurd h.symm e
        · exact h
      have := val_look h'
      unfold valT look at this
      have e1 : decide ((Sum.inl m.1 : Key) = Sum.inl n) = false := decide_eq_false fun z => e (Sum.inl.inj z)
      have e2 : (n == m.1) = false := by simpa using fun z => e z.symm
      simp only [e1, e2]
      exact this
theorem sc_pairs_of : FnScope ["parts"] ["parts"] (defScope s_pairs_of) := ⟨rfl, rfl, rfl, by decide +kernel, rfl, by decide +kernel, by decide +kernel⟩
theorem lk_pairs_of_parts : Lk s_pairs_of "parts" .cell := by decide +kernel
theorem lk_pairs_of_sorted : Lk s_pairs_of "sorted" .globalImplicit := by decide +kernel
theorem lk_pairs_of_tuple : Lk s_pairs_of "tuple" .globalImplicit := by decide +kernel
theorem len_pairs_of : ∀ ts Q, C_pairs_of ts Q -> ts.length = 1 := fun ts Q ⟨_, e, _⟩ => by rw [e]; rfl
theorem sg_two {a : Fq} (h : ¬ a.1 = 0) : sgF a = 1 ∨ sgF a = -1 := by
  unfold sgF
  split
  · exact .inl rfl
  · split
    · exact .inr rfl
    · omega
theorem nice_pairs_of : ∀ ts Q, C_pairs_of ts Q -> bodyC 1 b_pairs_of ts Q := by
  rintro _ Q ⟨d, rfl, hl, q⟩
  have ln : (PySem.W.sortI (d.map (·.1))).length = d.length := by rw [(PySem.W.sortI_perm (d.map (·.1))).length_eq, List.length_map]
  refine ⟨d.map (·.1), by rw [List.map_map]; rfl, by rw [List.length_map]; exact hl, few_line (by rw [List.length_map]; omega), ?_⟩
  unfold encP ofD at q
  rw [List.map_map] at q
  refine compW_encF (fun n => !decide ((look d n).1 = 0)) Tv.int _ (fun n hn Ky Kn ky kn => ?_) q
  have hm : n ∈ d.map (·.1) := (PySem.W.sortI_perm (d.map (·.1))).mem_iff.mp hn
  have hv := val_look hm
  have at_ : ∀ k : Tv -> Prop, k (encF (look d n)) -> wDIx (encD d) (.int n) k := fun k h => by
    show optK (valT _ _) k
    rw [hv]
    exact h
  refine ⟨_, rfl, at_ _ ⟨look d n, rfl, ?_⟩⟩
  by_cases z : (look d n).1 = 0
  · rw [sg_zero.mpr z]
    exact ⟨rfl, kn (by simp [z])⟩
  · rcases sg_two z with h | h
    · rw [h]
      exact ⟨rfl, at_ _ ⟨rfl, ky (by simp [z])⟩⟩
    · rw [h]
      exact ⟨rfl, at_ _ ⟨rfl, ky (by simp [z])⟩⟩
theorem ok_pairs_of (A : AllD K mg) (B : Blt mg) : FnOk P w K mg base (CXF P w) 2 A.f_pairs_of A.d_pairs_of ["parts"] (spV K C_pairs_of) :=
  fn_V A.D_pairs_of.F sc_pairs_of b_pairs_of len_pairs_of nice_pairs_of fun cdv A_ outer s H E hr => have hu := hr.units
  vs_one (vs_ret (v_fnT (f_tuple rfl) lk_pairs_of_tuple B.tuple bt_tuple (va_ListComp (v_comp rfl (frees_of ["number"] [("parts", 0)] ["parts"] (by decide +kernel)) (visC s_pairs_of (by decide +kernel)) (by decide +kernel) rfl (by decide +kernel) (fun y hy => PySem.mem_of_lookup hy) rfl (tg_name 0) (keeps_name (by decide)) noOw_name (vi_seq rfl (v_fnB (f_sortD rfl) lk_pairs_of_sorted B.sorted bt_sorted (va_Name (v_var (i := 0) rfl (Or.inr (Or.inl lk_pairs_of_parts))) va_nil))) (fun cl C s H fp pins => pg_name (i := 0) (show (["number", "parts"] : List Str).Nodup by decide +kernel) rfl (Or.inl (c_loc (by decide +kernel))) (.inr (c_loc (by decide +kernel)))) (fun cl C s H fp pins => vif_one (vt_cmp (o_ne rfl hu) (v_call rfl (ok_sign A B) (hr.mono (by decide)) (c_gl (by decide +kernel)) A.D_sign.m A.D_sign.F.kp A.D_sign.b passE0 (va_Subscript (v_dix (hu1 hu) (v_var (i := 1) rfl (c_free (by decide +kernel))) (v_var (i := 0) rfl (c_vloc (by decide +kernel))) (fun _ _ => rfl)) va_nil)) (v_int) (nomark _))) (fun cl C s H fp pins => v_tup (va_Name (v_var (i := 0) rfl (c_vloc (by decide +kernel))) (va_Subscript (v_dix (hu1 hu) (v_var (i := 1) rfl (c_free (by decide +kernel))) (v_var (i := 0) rfl (c_vloc (by decide +kernel))) (fun _ _ => rfl)) va_nil)))) va_nil)))
end
end Pw
set_option Elab.async false
set_option linter.all false
namespace Pw
open PySem L2
def encDt (d : Pq) : List (Key × Tv) := d.map fun m => (Sum.inl m.1, encF m.2)
theorem any_enc (d : Pq) (n : Int) : ((encDt d).any fun kv => decide (kv.1 = Sum.inl n)) = d.any fun m => decide (m.1 = n) := by
  unfold encDt
  rw [List.any_map]
  congr 1
  funext m
  show decide ((Sum.inl m.1 : Key) = Sum.inl n) = decide (m.1 = n)
  exact decide_eq_decide.mpr ⟨Sum.inl.inj, fun h => by rw [h]⟩
theorem put_enc (d : Pq) (n : Int) (a : Fq) : putT (encDt d) (.inl n) (encF a) = encDt (putP d n a) := by
  unfold putT putP
  rw [any_enc]
  split
  · unfold encDt
    rw [List.map_map, List.map_map]
    refine List.map_congr_left fun m _ => ?_
    show (if (Sum.inl m.1 : Key) = Sum.inl n then ((Sum.inl m.1 : Key), encF a) else (Sum.inl m.1, encF m.2)) = _
    by_cases h : m.1 = n
    · rw [if_pos (by rw [h])]; simp [h]
    · rw [if_neg (fun z => h (Sum.inl.inj z))]; simp [h]
  · unfold encDt
    rw [List.map_append]; rfl
theorem merge_enc : ∀ (e d : Pq), mergeT (encDt d) (encDt e) = encDt (e.foldl (fun acc m => putP acc m.1 m.2) d)
  | [], d => rfl
  | m :: e, d => by
    show mergeT (putT (encDt d) (.inl m.1) (encF m.2)) (encDt e) = _
    rw [put_enc, merge_enc e]
    rfl
theorem pairs_enc : ∀ d : Pq, pairsT (d.map fun m => .tup [.int m.1, encF m.2]) = some (encDt d)
  | [] => rfl
  | m :: d => by
    rw [List.map_cons]
    unfold pairsT
    rw [pairs_enc d]
    rfl
end Pw
set_option Elab.async false
set_option linter.all false
namespace Pw
open PySem L2
def ofV (g : Int -> Fq) : Nat -> Nat -> Pq
  | 0, _ => []
  | n + 1, k => if (g k).1 = 0 then ofV g n (k + 1) else ((k : Int), g k) :: ofV g n (k + 1)
theorem ofV_eq {g : Int -> Fq} : ∀ (n k : Nat) (ps : Pq), ps.Pairwise (fun a b => a.1 < b.1) -> (∀ m ∈ ps, (k : Int) <= m.1 /\ m.1 < (k + n : Nat) /\ g m.1 = m.2 /\ m.2.1 ≠ 0) -> (∀ j : Nat, k <= j -> j < k + n -> (g j).1 ≠ 0 -> ∃ m ∈ ps, m.1 = j) -> ps = ofV g n k
  | 0, k, ps, _, h, _ => by
    cases ps with
    | nil => rfl
    | cons m ps => have := h m List.mem_cons_self; omega
  | n + 1, k, ps, hr, h, hz => by
    unfold ofV
    split
    · rename_i z
      refine ofV_eq n (k + 1) ps hr (fun m hm => ?_) fun j h1 h2 h3 => hz j (by omega) (by omega) h3
      obtain ⟨a, b, c, d⟩ := h m hm
      have : m.1 ≠ (k : Int) := fun e => d (by rw [← c, e]; exact z)
      exact ⟨by omega, by omega, c, d⟩
    · rename_i z
      obtain ⟨m, hm, e⟩ := hz k (Nat.le_refl _) (by omega) z
      cases ps with
      | nil => cases hm
      | cons x ps =>
        have hx := h x List.mem_cons_self
        have e1 : x.1 = k := by
          rcases List.mem_cons.mp hm with e2 | hm
          · rw [← e2]; exact e
          · have := (List.pairwise_cons.mp hr).1 m hm
            omega
        have e2 : x = ((k : Int), g k) := by
          obtain ⟨x1, x2⟩ := x
          have e1 : x1 = k := e1
          subst e1
          rw [show g k = x2 from hx.2.2.1]
        rw [e2]
        congr 1
        obtain ⟨r1, r2⟩ := List.pairwise_cons.mp hr
        refine ofV_eq n (k + 1) ps r2 (fun m hm => ?_) fun j h1 h2 h3 => ?_
        · obtain ⟨a, b, c, d⟩ := h m (List.mem_cons_of_mem _ hm)
          have := r1 m hm
          exact ⟨by omega, by omega, c, d⟩
        · obtain ⟨m, hm, e⟩ := hz j (by omega) (by omega) h3
          rcases List.mem_cons.mp hm with e3 | hm
          · rw [e3] at e; omega
          · exact ⟨m, hm, e⟩
theorem ofV_congr {g f : Int -> Fq} : ∀ (n k : Nat), (∀ j : Nat, k <= j -> j < k + n -> g j = f j) -> ofV g n k = ofV f n k
  | 0, k, _ => rfl
  | n + 1, k, h => by
    unfold ofV
    rw [h k (Nat.le_refl _) (by omega), ofV_congr n (k + 1) fun j h1 h2 => h j (by omega) (by omega)]
theorem ofV_mem {g : Int -> Fq} {m : Int × Fq} : ∀ {n k : Nat}, m ∈ ofV g n k -> (k : Int) <= m.1 /\ m.1 < (k + n : Nat) /\ m.2 = g m.1 /\ m.2.1 ≠ 0
  | 0, k, h => by cases h
  | n + 1, k, h => by
    unfold ofV at h
    split at h
    · have := ofV_mem h
      exact ⟨by omega, by omega, this.2.2⟩
    · rcases List.mem_cons.mp h with e | h
      · rw [e]
        exact ⟨Int.le_refl _, by show (k : Int) < _; omega, rfl, by assumption⟩
      · have := ofV_mem h
        exact ⟨by omega, by omega, this.2.2⟩
theorem ofV_rise {g : Int -> Fq} : ∀ {n k : Nat}, (ofV g n k).Pairwise fun a b => a.1 < b.1
  | 0, k => .nil
  | n + 1, k => by
    unfold ofV
    split
    · exact ofV_rise
    · refine List.pairwise_cons.mpr ⟨fun m hm => ?_, ofV_rise⟩
      have := ofV_mem hm
      show (k : Int) < m.1
      omega
theorem ofV_len {g : Int -> Fq} : ∀ {n k : Nat}, (ofV g n k).length <= n
  | 0, k => Nat.le_refl _
  | n + 1, k => by
    unfold ofV
    split
    · exact Nat.le_succ_of_le ofV_len
    · exact Nat.succ_le_succ ofV_len
theorem look_cons (m : Int × Fq) (d : Pq) (n : Int) : look (m :: d) n = if n = m.1 then m.2 else look d n := by
  unfold look
  rw [List.lookup_cons]
  by_cases h : n = m.1
  · rw [if_pos h]; simp [h]
  · rw [if_neg h, show (n == m.1) = false by simpa using h]
theorem look_in {d : Pq} (h : (d.map (·.1)).Nodup) {m : Int × Fq} (hm : m ∈ d) : look d m.1 = m.2 := by
  induction d with
  | nil => cases hm
  | cons x d ih =>
    rw [List.map_cons, List.nodup_cons] at h
    rw [look_cons]
    rcases List.mem_cons.mp hm with e | hm
    · rw [e, if_pos rfl]
    · rw [if_neg fun z => h.1 (List.mem_map.mpr ⟨m, hm, z⟩)]
      exact ih h.2 hm
theorem look_out {d : Pq} {n : Int} (h : (look d n).1 ≠ 0) : ∃ m ∈ d, m.1 = n /\ m.2 = look d n := by
  induction d with
  | nil => exact absurd rfl h
  | cons x d ih =>
    rw [look_cons] at h ⊢
    split at h
    · rename_i e
      rw [if_pos e]
      exact ⟨x, List.mem_cons_self, e.symm, rfl⟩
    · rename_i e
      rw [if_neg e]
      obtain ⟨m, hm, q⟩ := ih h
      exact ⟨m, List.mem_cons_of_mem _ hm, q⟩
theorem rise_nodup {d : Pq} (h : d.Pairwise fun a b => a.1 < b.1) : (d.map (·.1)).Nodup := by
  rw [List.Nodup, List.pairwise_map]
  exact h.imp fun h => Int.ne_of_lt h
structure PsS (n : Nat) (ps : Pq) : Prop where
  r : ps.Pairwise fun a b => a.1 < b.1
  z : ∀ m ∈ ps, m.2.1 ≠ 0
  i : ∀ m ∈ ps, 0 <= m.1 /\ m.1 < n
theorem PsS.ofV {n : Nat} {ps : Pq} (h : PsS n ps) : ps = ofV (look ps) n 0 :=
  ofV_eq n 0 ps h.r (fun m hm => ⟨by have := h.i m hm; omega, by have := h.i m hm; omega, look_in (rise_nodup h.r) hm, h.z m hm⟩) fun j _ _ q => by
    obtain ⟨m, hm, e, _⟩ := look_out q
    exact ⟨m, hm, e⟩
theorem ofV_PsS {g : Int -> Fq} {n : Nat} : PsS n (ofV g n 0) := ⟨ofV_rise, fun m hm => (ofV_mem hm).2.2.2, fun m hm => by have := ofV_mem hm; omega⟩
theorem look_ofV {g : Int -> Fq} {n j : Nat} (hj : j < n) : (look (ofV g n 0) j = g j) ∨ ((g j).1 = 0 /\ look (ofV g n 0) j = (0, 1)) := by
  by_cases z : (look (ofV g n 0) j).1 = 0
  · have hn : ∀ m ∈ ofV g n 0, m.1 ≠ j := fun m hm e => by
      have := look_in (rise_nodup ofV_rise) hm
      rw [e] at this
      rw [this] at z
      exact (ofV_mem hm).2.2.2 z
    have l0 : look (ofV g n 0) j = (0, 1) := by
      unfold look
      have : (ofV g n 0).lookup (j : Int) = none := by
        rw [List.lookup_eq_none_iff]
        intro p hp
        simpa using fun z => hn p hp z.symm
      rw [this]; rfl
    refine .inr ⟨?_, l0⟩
    have key : ∀ n k : Nat, (∀ m ∈ ofV g n k, m.1 ≠ j) -> k <= j -> j < k + n -> (g j).1 = 0 := by
      intro n
      induction n with
      | zero => intro k _ a b; omega
      | succ n ih =>
        intro k hh a b
        unfold ofV at hh
        split at hh
        · rename_i q
          by_cases e : k = j
          · rw [← e]; exact q
          · exact ih (k + 1) hh (by omega) (by omega)
        · by_cases e : k = j
          · exact absurd (by rw [e]) (hh _ List.mem_cons_self)
          · exact ih (k + 1) (fun m hm => hh m (List.mem_cons_of_mem _ hm)) (by omega) (by omega)
    exact key n 0 hn (Nat.zero_le _) (by omega)
  · obtain ⟨m, hm, e, q⟩ := look_out z
    left
    rw [← q, (ofV_mem hm).2.2.1, e]
def updF (g : Int -> Fq) (j : Int) (a : Fq) : Int -> Fq := fun i => if i = j then a else g i
theorem look_app {d : Pq} {n j : Int} {a : Fq} (h : n ∉ d.map (·.1)) : look (d ++ [(n, a)]) j = updF (look d) n a j := by
  unfold updF
  induction d with
  | nil =>
    rw [List.nil_append, look_cons]
  | cons x d ih =>
    rw [List.map_cons, List.mem_cons, not_or] at h
    rw [List.cons_append, look_cons, look_cons, ih h.2]
    by_cases e : j = n
    · rw [if_pos e, if_neg (by rw [e]; exact h.1), if_pos e]
    · rw [if_neg e, if_neg e]
theorem look_map {d : Pq} {n j : Int} {a : Fq} (h : n ∈ d.map (·.1)) : look (d.map fun m => if m.1 = n then (m.1, a) else m) j = updF (look d) n a j := by
  unfold updF
  induction d with
  | nil => cases h
  | cons x d ih =>
    rw [List.map_cons, look_cons, look_cons]
    by_cases e : x.1 = n
    · rw [if_pos e]
      show (if j = x.1 then a else _) = _
      by_cases q : j = n
      · rw [if_pos (by rw [q, e]), if_pos q]
      · rw [if_neg (by rw [e]; exact q), if_neg q, if_neg (by rw [e]; exact q)]
        by_cases z : n ∈ d.map (·.1)
        · rw [ih z, if_neg q]
        · congr 1
          have : (d.map fun m => if m.1 = n then (m.1, a) else m) = d := by
            conv => rhs; rw [← List.map_id d]
            exact List.map_congr_left fun m hm => if_neg fun e => z (List.mem_map.mpr ⟨m, hm, e⟩)
          rw [this]
    · rw [if_neg e]
      have z : n ∈ d.map (·.1) := by
        rw [List.map_cons] at h
        rcases List.mem_cons.mp h with h | h
        · exact absurd h.symm e
        · exact h
      rw [ih z]
      by_cases q : j = n
      · rw [if_pos q, if_pos q, if_neg (by rw [q]; exact fun z => e z.symm)]
      · rw [if_neg q, if_neg q]
theorem look_put (d : Pq) (n : Int) (a : Fq) : look (putP d n a) = updF (look d) n a := by
  funext j
  unfold putP
  split
  · rename_i h
    obtain ⟨m, hm, e⟩ := List.any_eq_true.mp h
    exact look_map (List.mem_map.mpr ⟨m, hm, by simpa using e⟩)
  · rename_i h
    refine look_app fun z => h ?_
    obtain ⟨m, hm, e⟩ := List.mem_map.mp z
    exact List.any_eq_true.mpr ⟨m, hm, by simpa using e⟩
theorem ofD_eq {d : Pq} {n : Nat} (hn : (d.map (·.1)).Nodup) (hi : ∀ m ∈ d, 0 <= m.1 /\ m.1 < n) : ofD d = ofV (look d) n 0 := by
  have nd : (PySem.W.sortI (d.map (·.1))).Nodup := (PySem.W.sortI_perm _).nodup_iff.mpr hn
  have st : (PySem.W.sortI (d.map (·.1))).Pairwise (· < ·) := (PySem.W.sortI_rises (d.map (·.1))).imp₂ (fun _ _ h1 h2 => Int.lt_iff_le_and_ne.mpr ⟨h1, h2⟩) nd
  refine ofV_eq n 0 _ ?_ (fun m hm => ?_) fun j _ hj z => ?_
  · unfold ofD
    rw [List.pairwise_map]
    exact st.filter _
  · unfold ofD at hm
    obtain ⟨i, h1, rfl⟩ := List.mem_map.mp hm
    obtain ⟨h2, h3⟩ := List.mem_filter.mp h1
    obtain ⟨x, hx, rfl⟩ := List.mem_map.mp ((PySem.W.sortI_perm _).mem_iff.mp h2)
    have := hi x hx
    exact ⟨by show ((0 : Nat) : Int) <= x.1; omega, by show x.1 < _; omega, rfl, by simpa using h3⟩
  · obtain ⟨m, hm, e, _⟩ := look_out z
    unfold ofD
    exact ⟨(j, look d j), List.mem_map.mpr ⟨j, List.mem_filter.mpr ⟨(PySem.W.sortI_perm _).mem_iff.mpr (List.mem_map.mpr ⟨m, hm, e⟩), by simpa using z⟩, rfl⟩, rfl⟩
theorem merge_self : ∀ (e d : Pq), ((d.map (·.1)) ++ e.map (·.1)).Nodup -> e.foldl (fun acc m => putP acc m.1 m.2) d = d ++ e
  | [], d, _ => by simp
  | m :: e, d, h => by
    rw [List.foldl_cons]
    have h' := h
    rw [List.map_cons, List.nodup_append] at h'
    have nm : m.1 ∉ d.map (·.1) := fun z => h'.2.2 _ z _ List.mem_cons_self rfl
    have pn : putP d m.1 m.2 = d ++ [m] := by
      unfold putP
      rw [if_neg]
      intro q
      obtain ⟨x, hx, e⟩ := List.any_eq_true.mp q
      exact nm (List.mem_map.mpr ⟨x, hx, by simpa using e⟩)
    rw [pn, merge_self e _ (by simpa [List.append_assoc] using h)]
    simp
theorem qv_plG {j k : Nat} {a b : Fq} (h : Gd j a) (h' : Gd k b) : qv (plF a b) = qv a + qv b := qv_pl h.1 h'.1
theorem qv_tiG {j k : Nat} {a b : Fq} (h : Gd j a) (h' : Gd k b) : qv (tiF a b) = qv a * qv b := qv_ti h.1 h'.1
def addL (qs : Pq) (g : Int -> Fq) : Int -> Fq := qs.foldl (fun g m => updF g m.1 (plF (g m.1) m.2)) g
theorem addL_snoc (qs : Pq) (m : Int × Fq) (g : Int -> Fq) : addL (qs ++ [m]) g = updF (addL qs g) m.1 (plF (addL qs g m.1) m.2) := by
  unfold addL
  rw [List.foldl_append]
  rfl
theorem updF_at (g : Int -> Fq) (j : Int) (a : Fq) : updF g j a j = a := if_pos rfl
theorem updF_ne {g : Int -> Fq} {j i : Int} {a : Fq} (h : i ≠ j) : updF g j a i = g i := if_neg h
theorem addL_gd {n k1 k2 : Nat} : ∀ {qs : Pq} {g : Int -> Fq} {c : Nat}, (∀ j, 0 <= j -> j < (n : Int) -> Gd (k1 + (k2 + 1) * c) (g j)) -> (∀ m ∈ qs, Gd k2 m.2 /\ 0 <= m.1 /\ m.1 < (n : Int)) -> ∀ j, 0 <= j -> j < (n : Int) -> Gd (k1 + (k2 + 1) * (c + qs.length)) (addL qs g j)
  | [], g, c, h, _, j, a, b => h j a b
  | m :: qs, g, c, h, hq, j, a, b => by
    obtain ⟨g1, b0, b1⟩ := hq m List.mem_cons_self
    have := addL_gd (k1 := k1) (qs := qs) (g := updF g m.1 (plF (g m.1) m.2)) (c := c + 1) (fun i i0 i1 => ?_) (fun x hx => hq x (List.mem_cons_of_mem _ hx)) j a b
    · rw [List.length_cons, show c + (qs.length + 1) = c + 1 + qs.length by omega]
      exact this
    · by_cases e : i = m.1
      · rw [e, updF_at]
        exact ((h m.1 b0 b1).plus g1).mono (by rw [Nat.mul_succ]; omega)
      · rw [updF_ne e]
        exact (h i i0 i1).mono (by rw [Nat.mul_succ]; omega)
def updQ (f : Int -> Rat) (j : Int) (a : Rat) : Int -> Rat := fun i => if i = j then a else f i
theorem updQ_at (g : Int -> Rat) (j : Int) (a : Rat) : updQ g j a j = a := if_pos rfl
theorem updQ_ne {g : Int -> Rat} {j i : Int} {a : Rat} (h : i ≠ j) : updQ g j a i = g i := if_neg h
def subQ (c : Rat) (ps : Pq) (f : Int -> Rat) : Int -> Rat := ps.foldl (fun f m => updQ f m.1 (f m.1 + (-c) * qv m.2)) f
theorem subQ_snoc (c : Rat) (qs : Pq) (m : Int × Fq) (g : Int -> Rat) : subQ c (qs ++ [m]) g = updQ (subQ c qs g) m.1 (subQ c qs g m.1 + (-c) * qv m.2) := by
  unfold subQ
  rw [List.foldl_append]
  rfl
theorem subQ_zero : ∀ (ps : Pq) (f : Int -> Rat), subQ 0 ps f = f
  | [], f => rfl
  | m :: ps, f => by
    show subQ 0 ps (updQ f m.1 (f m.1 + (-0) * qv m.2)) = f
    have : updQ f m.1 (f m.1 + (-0) * qv m.2) = f := by
      funext i
      unfold updQ
      split
      · rename_i e; rw [e]; grind
      · rfl
    rw [this]
    exact subQ_zero ps f
theorem addL_q {n k1 k2 ka : Nat} {a : Fq} {c : Rat} (ga : Gd ka a) (ea : qv a = -c) : ∀ {ps : Pq} {g : Int -> Fq} {f : Int -> Rat} {e : Nat}, (∀ j, 0 <= j -> j < (n : Int) -> Gd (k1 + (k2 + ka + 1) * e) (g j) /\ qv (g j) = f j) -> (∀ m ∈ ps, Gd k2 m.2 /\ 0 <= m.1 /\ m.1 < (n : Int)) -> ∀ j, 0 <= j -> j < (n : Int) -> qv (addL (ps.map fun m => (m.1, tiF m.2 a)) g j) = subQ c ps f j
  | [], g, f, e, h, _, j, a, b => (h j a b).2
  | m :: ps, g, f, e, h, hq, j, j0, j1 => by
    obtain ⟨g1, b0, b1⟩ := hq m List.mem_cons_self
    obtain ⟨h1, h2⟩ := h m.1 b0 b1
    refine addL_q (k1 := k1) ga ea (ps := ps) (g := updF g m.1 (plF (g m.1) (tiF m.2 a))) (f := updQ f m.1 (f m.1 + (-c) * qv m.2)) (e := e + 1) (fun i i0 i1 => ?_) (fun x hx => hq x (List.mem_cons_of_mem _ hx)) j j0 j1
    by_cases e : i = m.1
    · rw [e, updF_at, updQ_at]
      refine ⟨(h1.plus (g1.times ga)).mono (by rw [Nat.mul_succ]; omega), ?_⟩
      rw [qv_plG h1 (g1.times ga), qv_tiG g1 ga, h2, ea]
      grind
    · rw [updF_ne e, updQ_ne e]
      exact ⟨(h i i0 i1).1.mono (by rw [Nat.mul_succ]; omega), (h i i0 i1).2⟩
def finQ (f : Int -> Rat) : List Un -> Nat -> Rat -> Option Rat
  | [], _, t => some t
  | u :: us, k, t => if f k = 0 then finQ f us (k + 1) t else match (if 0 < f k then u.lo else u.hi) with
    | none => none
    | some e => finQ f us (k + 1) (t + f k * qv e)
def rowsQ (us : List Un) : List (Rw × Fq) -> (Int -> Rat) -> Rat -> Option Rat
  | [], f, t => finQ f us 0 t
  | x :: l, f, t => if gwB (sgF x.2) x.1.mark = true then rowsQ us l (subQ (qv x.2) x.1.ps f) (t + qv x.2 * qv x.1.bd) else none
def floorQ (p : Pln) (ps : Pq) (xs : List Fq) : Option Rat := rowsQ p.us (p.rs.zip xs) (fun j => qv (look ps j)) 0
def fin2 (us : List Un) : Pq -> Rat -> Option Rat
  | [], t => some t
  | m :: ms, t => match (us[m.1.toNat]?).bind (endF · m.2) with
    | none => none
    | some e => fin2 us ms (t + qv m.2 * qv e)
theorem fin2_cons {us : List Un} {m : Int × Fq} {ms : Pq} {t : Rat} : fin2 us (m :: ms) t = match (us[m.1.toNat]?).bind (endF · m.2) with
    | none => none
    | some e => fin2 us ms (t + qv m.2 * qv e) := rfl
theorem rowsQ_cons {us : List Un} {x : Rw × Fq} {l : List (Rw × Fq)} {f : Int -> Rat} {t : Rat} : rowsQ us (x :: l) f t = if gwB (sgF x.2) x.1.mark = true then rowsQ us l (subQ (qv x.2) x.1.ps f) (t + qv x.2 * qv x.1.bd) else none := rfl
theorem finQ_cons {f : Int -> Rat} {u : Un} {us : List Un} {k : Nat} {t : Rat} : finQ f (u :: us) k t = if f k = 0 then finQ f us (k + 1) t else match (if 0 < f k then u.lo else u.hi) with
    | none => none
    | some e => finQ f us (k + 1) (t + f k * qv e) := rfl
theorem fin2_eq {us : List Un} {g : Int -> Fq} {f : Int -> Rat} : ∀ (l : List Un) (k : Nat) (t : Rat), us.drop k = l -> (∀ j : Nat, k <= j -> j < k + l.length -> 0 < (g j).2 /\ qv (g j) = f j) -> fin2 us (ofV g l.length k) t = finQ f l k t
  | [], k, t, _, _ => rfl
  | u :: l, k, t, e, h => by
    have e' : us.drop (k + 1) = l := by rw [← List.drop_drop, e]; rfl
    have hk : us[k]? = some u := by
      have : (us.drop k)[0]? = some u := by rw [e]; rfl
      rwa [List.getElem?_drop, Nat.add_zero] at this
    obtain ⟨p0, q0⟩ := h k (Nat.le_refl _) (by rw [List.length_cons]; omega)
    have ih := fun t => fin2_eq l (k + 1) t e' fun j h1 h2 => h j (by omega) (by rw [List.length_cons]; omega)
    rw [List.length_cons]
    unfold ofV finQ
    by_cases z : (g k).1 = 0
    · rw [if_pos z, if_pos (by rw [← q0]; exact (qv_zero p0).mpr z)]
      exact ih t
    · rw [if_neg z, if_neg (by rw [← q0]; exact fun y => z ((qv_zero p0).mp y))]
      unfold fin2
      show (match (us[(k : Int).toNat]?).bind (endF · (g k)) with | none => none | some e => fin2 us (ofV g l.length (k + 1)) (t + qv (g k) * qv e)) = _
      rw [Int.toNat_natCast, hk, Option.bind_some]
      have ee : endF u (g k) = if 0 < f k then u.lo else u.hi := by
        unfold endF
        by_cases y : 0 < (g k).1
        · rw [if_pos y, if_pos (by rw [← q0]; exact (qv_pos p0).mpr y)]
        · rw [if_neg y, if_neg (by rw [← q0]; exact fun x => y ((qv_pos p0).mp x))]
      rw [ee]
      cases (if 0 < f k then u.lo else u.hi) with
      | none => rfl
      | some e => rw [← q0]; exact ih _
theorem val_get (d : Pq) (n : Int) : (valT (encDt d) (.inl n)).getD (encF (0, 1)) = encF (look d n) := by
  induction d with
  | nil => rfl
  | cons m d ih =>
    rw [look_cons]
    unfold encDt valT at ih ⊢
    rw [List.map_cons, List.find?_cons]
    by_cases h : n = m.1
    · rw [if_pos h]
      have : decide ((Sum.inl m.1 : Key) = Sum.inl n) = true := decide_eq_true (by rw [h])
      simp only [this]
      rfl
    · rw [if_neg h]
      have : decide ((Sum.inl m.1 : Key) = Sum.inl n) = false := decide_eq_false fun z => h (Sum.inl.inj z).symm
      simp only [this]
      exact ih
theorem enc_dic (d : Pq) : Tv.dic ((encDt d).map (·.1)) ((encDt d).map (·.2)) = encD d := by
  unfold encDt encD
  rw [List.map_map, List.map_map]
  rfl
theorem valAt_set {ls : List Fq} {i j : Int} {a : Fq} (h0 : 0 <= i) (h1 : i < ls.length) (hj : 0 <= j) : valAt (ls.set i.toNat a) j = updF (valAt ls) i a j := by
  unfold valAt updF
  by_cases e : j = i
  · subst e
    rw [if_pos rfl]
    have : j.toNat < ls.length := by omega
    simp [this]
  · rw [if_neg e]
    have : i.toNat ≠ j.toNat := by omega
    simp [List.getD, List.getElem?_set_ne this]
theorem cz {a : Fq} (h : Red a) : (if a.1 = 0 then ((0, 1) : Fq) else tiF (0, 1) a) = (0, 1) := by
  split
  · rfl
  · exact red_zero (red_one.times h) ((ti_zero red_one h).mpr (.inl rfl))
theorem pl00 : plF (0, 1) (0, 1) = (0, 1) := red_zero (red_one.plus red_one) (by unfold plF; rw [mk_zero (by decide)]; decide)
theorem sg_neg {a : Fq} : sgF a < 0 ↔ a.1 < 0 := by
  unfold sgF
  split
  · omega
  · split <;> omega
theorem gw_bad {x : Fq} {m : Str} : gwB (sgF x) m = false ↔ (m = "<=" /\ 0 < x.1) ∨ (m = ">=" /\ x.1 < 0) := by
  unfold gwB
  by_cases h : m = "<="
  · rw [if_pos h, decide_eq_false_iff_not, Int.not_le, sg_pos]
    refine ⟨fun z => .inl ⟨h, z⟩, fun z => ?_⟩
    rcases z with ⟨_, z⟩ | ⟨z, _⟩
    · exact z
    · rw [h] at z; exact absurd z (by decide)
  · rw [if_neg h]
    by_cases h2 : m = ">="
    · rw [if_pos h2, decide_eq_false_iff_not, Int.not_le, sg_neg]
      refine ⟨fun z => .inr ⟨h2, z⟩, fun z => ?_⟩
      rcases z with ⟨z, _⟩ | ⟨_, z⟩
      · exact absurd z h
      · exact z
    · rw [if_neg h2]
      refine ⟨fun z => (nomatch z), fun z => ?_⟩
      rcases z with ⟨z, _⟩ | ⟨z, _⟩
      · exact absurd z h
      · exact absurd z h2
theorem zip_rx {rs : List Rw} {xs : List Fq} : zipL (rs.map encR) (encVs xs) = (rs.zip xs).map fun x => .tup [encR x.1, encF x.2] := by
  unfold zipL encVs
  rw [List.zipWith_map, List.zip, List.map_zipWith]
theorem drop_at {α : Type} {l : List α} {i : Nat} {x : α} (h : l[i]? = some x) : l.drop i = x :: l.drop (i + 1) := by
  obtain ⟨hi, e⟩ := List.getElem?_eq_some_iff.mp h
  rw [List.drop_eq_getElem_cons hi, e]
theorem isNon_O (o : Option Fq) : isNon (encO o) = !o.isSome := by cases o <;> rfl
theorem negF_gd {k : Nat} {x : Fq} (h : Gd k x) : Gd (k + 2) (negF x) := ((gd_one (k := 1) (by decide)).mn h).mono (by omega)
theorem negF_qv {x : Fq} (h : Red x) : qv (negF x) = - qv x := by
  show qv (mnF (0, 1) x) = _
  rw [qv_mn red_one h, qv_one]
  grind
end Pw
set_option Elab.async false
set_option linter.all false
set_option maxRecDepth 100000
set_option maxHeartbeats 4000000
namespace Pw
open PySem L2
seal PE PT PW PA PS PSs PG PGs PI PIf PO
section
variable {P : Program} {w : World} {K : PySem.W.Frag} {mg : Str -> Option Value} {base : Heap} {f : Addr} {fd : FuncData}
def b_added_2 : Sv := vFrz 2 (vRet (vTup [vCall (C_bin plF) [vOp wIx (vVar 0) (vC (.int 0)), vOp wIx (vVar 1) (vC (.int 0))], vCall C_pairs_of [vVar 2]]))
def b_added_1s : Sv := vFor (vSeqI (vOp wIx (vVar 1) (vC (.int 1)))) (gT [3, 4]) (vPutD 2 (vVar 3) (vCall (C_bin plF) [vGetO2 2 (vVar 3) (vC (.tup [.int 0, .int 1])), vVar 4]))
def b_added_1 : Sv := vSeq b_added_1s b_added_2
def b_added_0s : Sv := vNewD 2 [vOp wIx (vVar 0) (vC (.int 1))]
def b_added : Sv :=
  vSeq b_added_0s b_added_1
def C_added : Ct := fun ts P => ∃ (n : Nat) (g : Int -> Fq) (qs : Pq) (c c' : Fq) (k1 k2 j k : Nat), ts = [.tup [encF c, encP (ofV g n 0)], .tup [encF c', encP qs]] /\ n <= 20 /\ qs.length <= 20 /\ (∀ i, 0 <= i -> i < (n : Int) -> Gd k1 (g i)) /\ (∀ m ∈ qs, Gd k2 m.2 /\ 0 <= m.1 /\ m.1 < (n : Int)) /\ k1 + (k2 + 1) * (qs.length + 1) <= 7000 /\ Gd j c /\ Gd k c' /\ j + k <= 7000 /\ P (.ok (.va (.tup [encF (plF c c'), encP (ofV (addL qs g) n 0)])))
theorem sc_added : FnScope ["one", "other", "parts", "number", "part"] ["one", "other"] (defScope s_added) := ⟨rfl, rfl, rfl, by decide +kernel, rfl, by decide +kernel, by decide +kernel⟩
theorem lk_added_one : Lk s_added "one" .local := by decide +kernel
theorem lk_added_other : Lk s_added "other" .local := by decide +kernel
theorem lk_added_parts : Lk s_added "parts" .local := by decide +kernel
theorem lk_added_number : Lk s_added "number" .local := by decide +kernel
theorem lk_added_part : Lk s_added "part" .local := by decide +kernel
theorem lk_added_NOUGHT : Lk s_added "NOUGHT" .globalImplicit := by decide +kernel
theorem lk_added_dict : Lk s_added "dict" .globalImplicit := by decide +kernel
theorem lk_added_pairs_of : Lk s_added "pairs_of" .globalImplicit := by decide +kernel
theorem lk_added_plus : Lk s_added "plus" .globalImplicit := by decide +kernel
theorem len_added : ∀ ts Q, C_added ts Q -> ts.length = 2 := fun ts Q ⟨_, _, _, _, _, _, _, _, _, e, _⟩ => by rw [e]; rfl
theorem nice_added : ∀ ts Q, C_added ts Q -> bodyC 5 b_added ts Q := by
  rintro _ Q ⟨n, g, qs, c, c', k1, k2, j, k, rfl, hn, hq, hg, hm, hb, gc, gc', hjk, q⟩
  have e0 : pairsT ((ofV g n 0).map fun m => Tv.tup [.int m.1, encF m.2]) = some (encDt (ofV g n 0)) := pairs_enc _
  have e1 : mergeT [] (encDt (ofV g n 0)) = encDt (ofV g n 0) := by
    have := merge_enc (ofV g n 0) []
    rw [merge_self _ [] (by simpa using rise_nodup ofV_rise)] at this
    exact this
  suffices key : ∀ T : Sv, (∀ D, T [.va (.tup [encF c, encP (ofV g n 0)]), .va (.tup [encF c', encP qs]), .od D (encDt (ofV g n 0)), .un, .un] (bodyK Q)) -> bodyC 5 (vSeq b_added_0s T) [.tup [encF c, encP (ofV g n 0)], .tup [encF c', encP qs]] Q by
    refine key b_added_1 fun D => ?_
    clear key
    suffices key : ∀ T : Sv, (∀ d a b, (d.map (·.1)).Nodup -> (∀ m ∈ d, 0 <= m.1 /\ m.1 < (n : Int)) -> d.length <= 40 -> (∀ x, 0 <= x -> x < (n : Int) -> look d x = addL qs g x) -> T [.va (.tup [encF c, encP (ofV g n 0)]), .va (.tup [encF c', encP qs]), .od D (encDt d), a, b] (bodyK Q)) -> vSeq b_added_1s T [.va (.tup [encF c, encP (ofV g n 0)]), .va (.tup [encF c', encP qs]), .od D (encDt (ofV g n 0)), .un, .un] (bodyK Q) by
      refine key b_added_2 fun d a b nd hi hl he => ?_
      unfold b_added_2
      refine ⟨c, c', j, k, rfl, gc, gc', hjk, d, congrArg (fun z => [z]) (enc_dic d), by omega, ?_⟩
      rw [ofD_eq nd hi, ofV_congr (f := addL qs g) n 0 fun j _ hj => he j (by omega) (by omega)]
      exact q
    intro T hT
    refine forW_by (fun i ρ => ∃ (d : Pq) (a b : Sl), ρ = [.va (.tup [encF c, encP (ofV g n 0)]), .va (.tup [encF c', encP qs]), .od D (encDt d), a, b] /\ (d.map (·.1)).Nodup /\ (∀ m ∈ d, 0 <= m.1 /\ m.1 < (n : Int)) /\ d.length <= n + i /\ ∀ x, 0 <= x -> x < (n : Int) -> look d x = addL (qs.take i) g x) ⟨ofV g n 0, .un, .un, rfl, rise_nodup ofV_rise, fun m hm => ofV_PsS.i m hm, ofV_len, fun x h0 h1 => ?_⟩ (fun i x ρ e hi K kk => ?_) fun ρ hi => ?_
    · obtain ⟨y, rfl⟩ := Int.eq_ofNat_of_zero_le h0
      rcases look_ofV (g := g) (n := n) (j := y) (by omega) with h | ⟨h2, h3⟩
      · exact h
      · rw [h3]
        exact (red_zero (hg _ h0 h1).1 h2).symm
    · obtain ⟨d, a, b, rfl, nd, hi, hl, he⟩ := hi
      rw [List.getElem?_map] at e
      obtain ⟨m, hm', rfl⟩ := Option.map_eq_some_iff.mp e
      obtain ⟨gm, m0, m1⟩ := hm m (List.mem_of_getElem? hm')
      have hil : i < qs.length := (List.getElem?_eq_some_iff.mp hm').1
      have hmul : (k2 + 1) * (i + 1) <= (k2 + 1) * (qs.length + 1) := Nat.mul_le_mul_left _ (by omega)
      rw [Nat.mul_succ] at hmul
      have gl : Gd (k1 + (k2 + 1) * i) (look d m.1) := by
        rw [he m.1 m0 m1]
        have := addL_gd (c := 0) (k1 := k1) (k2 := k2) (qs := qs.take i) (g := g) (by simpa using hg) (fun x hx => hm x (List.mem_of_mem_take hx)) m.1 m0 m1
        rw [List.length_take, Nat.min_eq_left (by omega), Nat.zero_add] at this
        exact this
      refine ⟨_, rfl, look d m.1, m.2, _, _, congrArg (fun z => [z, encF m.2]) (val_get d m.1), gl, gm, by omega, few_line (by unfold encDt; rw [List.length_map]; omega), ?_⟩
      have hk := kk [.va (.tup [encF c, encP (ofV g n 0)]), .va (.tup [encF c', encP qs]), .od D (encDt (putP d m.1 (plF (look d m.1) m.2))), .va (.int m.1), .va (encF m.2)] ⟨_, _, _, rfl, put_nodup nd, fun x hx => ?_, ?_, fun x h0 h1 => ?_⟩
      · rw [← put_enc] at hk
        exact hk
      · rcases put_mem hx with h | h
        · rw [h]; exact ⟨m0, m1⟩
        · exact hi x h
      · have := put_len d m.1 (plF (look d m.1) m.2)
        omega
      · rw [look_put, take_next hm', addL_snoc]
        unfold updF
        rw [he m.1 m0 m1, he x h0 h1]
    · obtain ⟨d, a, b, rfl, nd, hi, hl, he⟩ := hi
      rw [List.length_map] at hl he
      rw [List.take_length] at he
      exact hT d a b nd hi (by omega) he
  intro T hT
  show (match pairsT ((ofV g n 0).map fun m => Tv.tup [.int m.1, encF m.2]) with | some d => ∀ D, T [.va (.tup [encF c, encP (ofV g n 0)]), .va (.tup [encF c', encP qs]), .od D (mergeT [] d), .un, .un] (bodyK Q) | none => False)
  rw [e0]
  intro D
  rw [e1]
  exact hT D
theorem ok_added (A : AllD K mg) (B : Blt mg) : FnOk P w K mg base (CXF P w) 5 A.f_added A.d_added ["one", "other"] (spV K C_added) :=
  fn_V A.D_added.F sc_added b_added len_added nice_added fun cdv A_ outer s H E hr => have hu := hr.units
  vs_cons (vs_newD (i := 2) sc_added.nd rfl (Or.inl lk_added_parts) rfl rfl lk_added_dict B.dict (va_Subscript (v_ix (o_ix rfl) (v_var (i := 0) rfl (Or.inl lk_added_one)) (v_int) (fun _ _ => rfl)) va_nil))
  (vs_cons (vs_for pown_fn rfl (vi_seq rfl (v_ix (o_ix rfl) (v_var (i := 1) rfl (Or.inl lk_added_other)) (v_int) (fun _ _ => rfl))) (pg_tupK rfl rfl (vgs_cons (i := 3) sc_added.nd rfl (Or.inl lk_added_number) (.inl rfl) (vgs_cons (i := 4) sc_added.nd rfl (Or.inl lk_added_part) (.inl rfl) (vgs_nil)))) (tg_tup rfl) (vs_one (vs_putD (i := 2) (hu1 hu) rfl (Or.inl lk_added_parts) (v_call rfl (ok_plus A B) (hr.mono (by decide)) lk_added_plus A.D_plus.m A.D_plus.F.kp A.D_plus.b passes_fn (va_Call (v_getO2 (i := 2) (hu1 hu) rfl (Or.inl lk_added_parts) (v_var (i := 3) rfl (Or.inl lk_added_number)) (v_glob (v := .ref A.a_NOUGHT) lk_added_NOUGHT A.m_NOUGHT rfl A.r_NOUGHT) ⟨rfl, rfl, rfl, rfl⟩) (va_Name (v_var (i := 4) rfl (Or.inl lk_added_part)) va_nil))) (v_var (i := 3) rfl (Or.inl lk_added_number)))))
  (vs_one (vs_frz 2 (vs_ret (v_tup (va_Call (v_call rfl (ok_plus A B) (hr.mono (by decide)) lk_added_plus A.D_plus.m A.D_plus.F.kp A.D_plus.b passes_fn (va_Subscript (v_ix (o_ix rfl) (v_var (i := 0) rfl (Or.inl lk_added_one)) (v_int) (fun _ _ => rfl)) (va_Subscript (v_ix (o_ix rfl) (v_var (i := 1) rfl (Or.inl lk_added_other)) (v_int) (fun _ _ => rfl)) va_nil))) (va_Call (v_call rfl (ok_pairs_of A B) (hr.mono (by decide)) lk_added_pairs_of A.D_pairs_of.m A.D_pairs_of.F.kp A.D_pairs_of.b passes_fn (va_Name (v_var (i := 2) rfl (Or.inl lk_added_parts)) va_nil)) va_nil)))))))
end
end Pw
set_option Elab.async false
set_option linter.all false
set_option maxRecDepth 100000
set_option maxHeartbeats 4000000
namespace Pw
open PySem L2
seal PE PT PW PA PS PSs PG PGs PI PIf PO
section
variable {P : Program} {w : World} {K : PySem.W.Frag} {mg : Str -> Option Value} {base : Heap} {f : Addr} {fd : FuncData}
def b_floor_b2 : Sv := vSet 5 (vCall (C_bin plF) [vVar 5, vCall (C_bin tiF) [vVar 7, vOp wIx (vVar 6) (vC (.int 3))]])
def b_floor_b1s : Sv := vSet 4 (vCall C_added [vVar 4, vCall C_scaled [vTup [vC (.tup [.int 0, .int 1]), vOp wIx (vVar 6) (vC (.int 1))], vCall (C_bin mnF) [vC (.tup [.int 0, .int 1]), vVar 7]]])
def b_floor_b1 : Sv := vSeq b_floor_b1s b_floor_b2
def b_floor_b0s : Sv := vIfS (vNot (vTest truT (vCall C_goes_with [vCall C_sign [vVar 7], vOp wIx (vVar 6) (vC (.int 2))]))) (vRet (vC .non)) (vNext)
def b_floor_b0 : Sv := vSeq b_floor_b0s b_floor_b1
def b_floor_d2 : Sv := vSet 5 (vCall (C_bin plF) [vVar 5, vCall (C_bin tiF) [vVar 9, vVar 10]])
def b_floor_d1s : Sv := vIfS (vCmp wIs (vVar 10) (vC .non)) (vRet (vC .non)) (vNext)
def b_floor_d1 : Sv := vSeq b_floor_d1s b_floor_d2
def b_floor_d0s : Sv := vSet 10 (vCall C_end_for [vOp wIx (vOp wIx (vVar 0) (vC (.int 0))) (vVar 8), vVar 9])
def b_floor_d0 : Sv := vSeq b_floor_d0s b_floor_d1
def b_floor_6 : Sv := vRet (vVar 5)
def b_floor_5s : Sv := vFor (vSeqI (vOp wIx (vVar 4) (vC (.int 1)))) (gT [8, 9]) (b_floor_d0)
def b_floor_5 : Sv := vSeq b_floor_5s b_floor_6
def b_floor_4s : Sv := vFor (vZip true true (vVar 3) (vVar 2)) (gT [6, 7]) (b_floor_b0)
def b_floor_4 : Sv := vSeq b_floor_4s b_floor_5
def b_floor_3s : Sv := vSet 5 (vC (.tup [.int 0, .int 1]))
def b_floor_3 : Sv := vSeq b_floor_3s b_floor_4
def b_floor_2s : Sv := vSet 4 (vTup [vC (.tup [.int 0, .int 1]), vVar 1])
def b_floor_2 : Sv := vSeq b_floor_2s b_floor_3
def b_floor_1s : Sv := vIfS (vCmp wNe (vFn wLen [vVar 2]) (vFn wLen [vVar 3])) (vRet (vC .non)) (vNext)
def b_floor_1 : Sv := vSeq b_floor_1s b_floor_2
def b_floor_0s : Sv := vSet 3 (vOp wIx (vVar 0) (vC (.int 1)))
def b_floor : Sv :=
  vSeq b_floor_0s b_floor_1
def C_floor : Ct := fun ts P => ∃ (n : Nat) (p : Pln) (ps : Pq) (xs : List Fq), ts = [encPl p, encP ps, .tup (encVs xs)] /\ PlOk n p /\ (∀ r ∈ p.rs, Gd 31 r.bd) /\ PsS n ps /\ (∀ m ∈ ps, Gd 33 m.2) /\ xs.length = p.rs.length /\ (∀ x ∈ xs, Gd 31 x) /\ ∀ o : Option Fq, GdO 7000 o -> o.map qv = floorQ p ps xs -> P (.ok (.va (encO o)))
theorem sc_floor : FnScope ["plan", "pairs", "prices", "rows", "left", "total", "row", "price", "number", "part", "end"] ["plan", "pairs", "prices"] (defScope s_floor) := ⟨rfl, rfl, rfl, by decide +kernel, rfl, by decide +kernel, by decide +kernel⟩
theorem lk_floor_plan : Lk s_floor "plan" .local := by decide +kernel
theorem lk_floor_pairs : Lk s_floor "pairs" .local := by decide +kernel
theorem lk_floor_prices : Lk s_floor "prices" .local := by decide +kernel
theorem lk_floor_rows : Lk s_floor "rows" .local := by decide +kernel
theorem lk_floor_left : Lk s_floor "left" .local := by decide +kernel
theorem lk_floor_total : Lk s_floor "total" .local := by decide +kernel
theorem lk_floor_row : Lk s_floor "row" .local := by decide +kernel
theorem lk_floor_price : Lk s_floor "price" .local := by decide +kernel
theorem lk_floor_number : Lk s_floor "number" .local := by decide +kernel
theorem lk_floor_part : Lk s_floor "part" .local := by decide +kernel
theorem lk_floor_end : Lk s_floor "end" .local := by decide +kernel
theorem lk_floor_NOUGHT : Lk s_floor "NOUGHT" .globalImplicit := by decide +kernel
theorem lk_floor_added : Lk s_floor "added" .globalImplicit := by decide +kernel
theorem lk_floor_end_for : Lk s_floor "end_for" .globalImplicit := by decide +kernel
theorem lk_floor_goes_with : Lk s_floor "goes_with" .globalImplicit := by decide +kernel
theorem lk_floor_len : Lk s_floor "len" .globalImplicit := by decide +kernel
theorem lk_floor_minus : Lk s_floor "minus" .globalImplicit := by decide +kernel
theorem lk_floor_plus : Lk s_floor "plus" .globalImplicit := by decide +kernel
theorem lk_floor_scaled : Lk s_floor "scaled" .globalImplicit := by decide +kernel
theorem lk_floor_sign : Lk s_floor "sign" .globalImplicit := by decide +kernel
theorem lk_floor_times : Lk s_floor "times" .globalImplicit := by decide +kernel
theorem lk_floor_zip : Lk s_floor "zip" .globalImplicit := by decide +kernel
theorem len_floor : ∀ ts Q, C_floor ts Q -> ts.length = 3 := fun ts Q ⟨_, _, _, _, e, _⟩ => by rw [e]; rfl
theorem floor_5 {Q : Ans Sl -> Prop} {n : Nat} {p : Pln} {g : Int -> Fq} {f : Int -> Rat} {t : Fq} {z1 z2 z3 a b : Sl} (hp : PlOk n p) (hg : ∀ j, 0 <= j -> j < (n : Int) -> Gd 1400 (g j) /\ qv (g j) = f j) (gt : Gd 400 t) (q : ∀ o : Option Fq, GdO 7000 o -> o.map qv = finQ f p.us 0 (qv t) -> Q (.ok (.va (encO o)))) : b_floor_5 [.va (encPl p), z1, z2, z3, .va (.tup [encF (0, 1), encP (ofV g n 0)]), .va (encF t), a, b, .un, .un, .un] (bodyK Q) := by
  unfold b_floor_5
  have n4 := hp.n4
  have ul := hp.ul
  have e2 : fin2 p.us (ofV g n 0) (qv t) = finQ f p.us 0 (qv t) := by
    have := fin2_eq (us := p.us) (g := g) (f := f) p.us 0 (qv t) rfl fun j _ hj => ⟨(hg j (by omega) (by omega)).1.1.pos, (hg j (by omega) (by omega)).2⟩
    rw [hp.ul] at this
    exact this
  rw [← e2] at q
  have hlen : (ofV g n 0).length <= 4 := Nat.le_trans ofV_len n4
  refine forW_by (fun i ρ => ∃ (t' : Fq) (x y z : Sl), ρ = [.va (encPl p), z1, z2, z3, .va (.tup [encF (0, 1), encP (ofV g n 0)]), .va (encF t'), a, b, x, y, z] /\ fin2 p.us ((ofV g n 0).drop i) (qv t') = fin2 p.us (ofV g n 0) (qv t) /\ Gd (400 + 1461 * i) t') ⟨t, _, _, _, rfl, rfl, gt⟩ (fun i x ρ e hi K k => ?_) fun ρ hi => ?_
  · obtain ⟨t', x, y, z, rfl, ef, gt'⟩ := hi
    rw [List.getElem?_map] at e
    obtain ⟨m, hm, rfl⟩ := Option.map_eq_some_iff.mp e
    have hil : i < (ofV g n 0).length := (List.getElem?_eq_some_iff.mp hm).1
    obtain ⟨m0, m1, m2, m3⟩ := ofV_mem (List.mem_of_getElem? hm)
    have m0 : 0 <= m.1 := by omega
    have m1 : m.1 < (n : Int) := by omega
    have gm : Gd 1400 m.2 := m2 ▸ (hg m.1 m0 m1).1
    have hu : m.1.toNat < p.us.length := by omega
    obtain ⟨gl, gh⟩ := hp.us _ (List.getElem_mem hu)
    rw [drop_at hm, fin2_cons] at ef
    rw [List.getElem?_eq_getElem hu, Option.bind_some] at ef
    refine ⟨_, rfl, ix_to m0 (t := encU p.us[m.1.toNat]) (by rw [List.getElem?_map, List.getElem?_eq_getElem hu]; rfl) ⟨p.us[m.1.toNat], m.2, rfl, ?_⟩⟩
    cases h : endF p.us[m.1.toNat] m.2 with
    | none =>
      rw [h] at ef
      exact q none gdO_none ef
    | some e =>
      rw [h] at ef
      have ge : Gd 60 e := by
        unfold endF at h
        split at h
        · exact gl e h
        · exact gh e h
      have g3 := gm.times ge
      refine ⟨m.2, e, 1400, 60, rfl, gm, ge, by decide, t', _, _, _, rfl, gt', g3, by omega, k _ ⟨_, _, _, _, rfl, ?_, (gt'.plus g3).mono (by omega)⟩⟩
      rw [qv_pl gt'.1 g3.1, qv_ti gm.1 ge.1]
      exact ef
  · obtain ⟨t', x, y, z, rfl, ef, gt'⟩ := hi
    rw [List.length_map] at ef gt'
    rw [List.drop_length] at ef
    exact q (some t') (gdO_some (gt'.mono (by omega))) ef
theorem floor_4 {Q : Ans Sl -> Prop} {n : Nat} {p : Pln} {g : Int -> Fq} {f : Int -> Rat} {xs : List Fq} {z1 : Sl} (hp : PlOk n p) (hb : ∀ r ∈ p.rs, Gd 31 r.bd) (hx : ∀ x ∈ xs, Gd 31 x) (hg : ∀ j, 0 <= j -> j < (n : Int) -> Gd 33 (g j) /\ qv (g j) = f j) (q : ∀ o : Option Fq, GdO 7000 o -> o.map qv = rowsQ p.us (p.rs.zip xs) f 0 -> Q (.ok (.va (encO o)))) : b_floor_4 [.va (encPl p), z1, .va (.tup (encVs xs)), .va (.tup (p.rs.map encR)), .va (.tup [encF (0, 1), encP (ofV g n 0)]), .va (encF (0, 1)), .un, .un, .un, .un, .un] (bodyK Q) := by
  have n4 := hp.n4
  have rl := hp.rl
  suffices key : ∀ T : Sv, (∀ (g : Int -> Fq) (f : Int -> Rat) (t : Fq) (a b : Sl), (∀ j, 0 <= j -> j < (n : Int) -> Gd 1400 (g j) /\ qv (g j) = f j) -> Gd 400 t -> (∀ o : Option Fq, GdO 7000 o -> o.map qv = finQ f p.us 0 (qv t) -> Q (.ok (.va (encO o)))) -> T [.va (encPl p), z1, .va (.tup (encVs xs)), .va (.tup (p.rs.map encR)), .va (.tup [encF (0, 1), encP (ofV g n 0)]), .va (encF t), a, b, .un, .un, .un] (bodyK Q)) -> vSeq b_floor_4s T [.va (encPl p), z1, .va (.tup (encVs xs)), .va (.tup (p.rs.map encR)), .va (.tup [encF (0, 1), encP (ofV g n 0)]), .va (encF (0, 1)), .un, .un, .un, .un, .un] (bodyK Q) from key b_floor_5 fun g f t a b h1 h2 h3 => floor_5 hp h1 h2 h3
  intro T hT
  have zl : (p.rs.zip xs).length <= 5 := by rw [List.length_zip]; omega
  refine forW_by (fun i ρ => ∃ (g : Int -> Fq) (f' : Int -> Rat) (t : Fq) (a b : Sl), ρ = [.va (encPl p), z1, .va (.tup (encVs xs)), .va (.tup (p.rs.map encR)), .va (.tup [encF (0, 1), encP (ofV g n 0)]), .va (encF t), a, b, .un, .un, .un] /\ (∀ j, 0 <= j -> j < (n : Int) -> Gd (33 + 66 * 4 * i) (g j) /\ qv (g j) = f' j) /\ Gd (1 + 63 * i) t /\ rowsQ p.us ((p.rs.zip xs).drop i) f' (qv t) = rowsQ p.us (p.rs.zip xs) f 0) ⟨g, f, (0, 1), .un, .un, rfl, hg, gd_one (by decide), by rw [qv_one]; rfl⟩ (fun i x ρ e hi K k => ?_) fun ρ hi => ?_
  · obtain ⟨g, f', t, a, b, rfl, hg', gt, ef⟩ := hi
    rw [zip_rx, List.getElem?_map] at e
    obtain ⟨⟨r, x⟩, hz, rfl⟩ := Option.map_eq_some_iff.mp e
    have hil : i < (p.rs.zip xs).length := (List.getElem?_eq_some_iff.mp hz).1
    have hm := List.of_mem_zip (List.mem_of_getElem? hz)
    have ro := hp.rs r hm.1
    have gx := hx x hm.2
    have gbd := hb r hm.1
    rw [drop_at hz, rowsQ_cons] at ef
    refine ⟨_, rfl, ?_⟩
    suffices key2 : ∀ (T2 : Sv) (P2 : Fl -> En -> Prop), (∀ ρ, P2 (.rt (.va .non)) ρ = Q (.ok (.va .non))) -> (gwB (sgF x) r.mark = true -> T2 [.va (encPl p), z1, .va (.tup (encVs xs)), .va (.tup (p.rs.map encR)), .va (.tup [encF (0, 1), encP (ofV g n 0)]), .va (encF t), .va (encR r), .va (encF x), .un, .un, .un] P2) -> vSeq b_floor_b0s T2 [.va (encPl p), z1, .va (.tup (encVs xs)), .va (.tup (p.rs.map encR)), .va (.tup [encF (0, 1), encP (ofV g n 0)]), .va (encF t), .va (encR r), .va (encF x), .un, .un, .un] P2 by
      refine key2 b_floor_b1 _ (fun _ => rfl) fun cg => ?_
      rw [if_pos cg] at ef
      have gn := negF_gd gx
      have hl := ro.ps.l
      unfold b_floor_b1
      refine ⟨(0, 1), x, 1, 31, rfl, gd_one (by decide), gx, by decide, (0, 1), r.ps, negF x, 33, rfl, gd_one (by decide), gn, fun m hm => ((ro.ps.it m hm).1.mono (by decide)), by decide, by omega, n, g, scP r.ps (negF x), (0, 1), (0, 1), 33 + 66 * 4 * i, 65, 1, 1, by rw [cz gn.1], by omega, ?_, fun j h0 h1 => (hg' j h0 h1).1, fun m hm => ?_, ?_, gd_one (by decide), gd_one (by decide), by decide, ?_⟩
      · unfold scP; split
        · exact Nat.zero_le _
        · rw [List.length_map]; omega
      · unfold scP at hm
        split at hm
        · cases hm
        · obtain ⟨m', hm', rfl⟩ := List.mem_map.mp hm
          obtain ⟨w1, w2, w3⟩ := ro.ps.it m' hm'
          exact ⟨(w1.times gn).mono (by decide), w2, w3⟩
      · have : (scP r.ps (negF x)).length <= 4 := by
          unfold scP; split
          · exact Nat.zero_le _
          · rw [List.length_map]; omega
        omega
      · rw [pl00]
        refine ⟨x, r.bd, 31, 31, rfl, gx, gbd, by decide, t, _, _, _, rfl, gt, gx.times gbd, by omega, k _ ⟨addL (scP r.ps (negF x)) g, subQ (qv x) r.ps f', _, _, _, rfl, fun j h0 h1 => ⟨?_, ?_⟩, (gt.plus (gx.times gbd)).mono (by omega), ?_⟩⟩
        · have hq : ∀ m ∈ scP r.ps (negF x), Gd 65 m.2 /\ 0 <= m.1 /\ m.1 < (n : Int) := fun m hm => by
            unfold scP at hm
            split at hm
            · cases hm
            · obtain ⟨m', hm', rfl⟩ := List.mem_map.mp hm
              obtain ⟨w1, w2, w3⟩ := ro.ps.it m' hm'
              exact ⟨(w1.times gn).mono (by decide), w2, w3⟩
          have hl2 : (scP r.ps (negF x)).length <= 4 := by
            unfold scP; split
            · exact Nat.zero_le _
            · rw [List.length_map]; omega
          have := addL_gd (c := 0) (k1 := 33 + 66 * 4 * i) (k2 := 65) (qs := scP r.ps (negF x)) (g := g) (fun j h0 h1 => by rw [Nat.mul_zero]; exact (hg' j h0 h1).1) hq j h0 h1
          exact this.mono (by omega)
        · unfold scP
          by_cases z : (negF x).1 = 0
          · rw [if_pos z]
            have z0 : qv x = 0 := by
              have := (qv_zero gn.1.pos).mpr z
              rw [negF_qv gx.1] at this
              grind
            rw [z0, subQ_zero]
            exact (hg' j h0 h1).2
          · rw [if_neg z]
            exact addL_q (k1 := 33 + 66 * 4 * i) (k2 := 31) (e := 0) gn (negF_qv gx.1) (fun j h0 h1 => hg' j h0 h1) ro.ps.it j h0 h1
        · rw [qv_pl gt.1 (gx.times gbd).1, qv_ti gx.1 gbd.1]
          exact ef
    intro T2 P2 hP h2
    refine ⟨x, rfl, sgF x, r.mark, rfl, ite_go (fun c => ?_) fun c => ?_⟩
    · have c : gwB (sgF x) r.mark = false := by simpa using c
      rw [if_neg (by rw [c]; decide)] at ef
      have : Q (.ok (.va .non)) := q none gdO_none ef
      show P2 (.rt (.va .non)) _
      rw [hP]
      exact this
    · exact h2 (by simpa using c)
  · obtain ⟨g, f', t, a, b, rfl, hg', gt, ef⟩ := hi
    rw [zip_rx, List.length_map] at ef gt hg'
    rw [List.drop_length] at ef
    refine hT g f' t a b (fun j h0 h1 => ⟨(hg' j h0 h1).1.mono (by omega), (hg' j h0 h1).2⟩) (gt.mono (by omega)) fun o ho e => q o ho ?_
    rw [e]
    exact ef
theorem nice_floor : ∀ ts Q, C_floor ts Q -> bodyC 11 b_floor ts Q := by
  rintro _ Q ⟨n, p, ps, xs, rfl, hp, hb, hs, gs, hl, gx, q⟩
  suffices key : ∀ T : Sv, T [.va (encPl p), .va (encP ps), .va (.tup (encVs xs)), .va (.tup (p.rs.map encR)), .va (.tup [encF (0, 1), encP ps]), .va (encF (0, 1)), .un, .un, .un, .un, .un] (bodyK Q) -> bodyC 11 (vSeq b_floor_0s (vSeq b_floor_1s (vSeq b_floor_2s (vSeq b_floor_3s T)))) [encPl p, encP ps, .tup (encVs xs)] Q by
    refine key b_floor_4 ?_
    have := floor_4 (Q := Q) (z1 := .va (encP ps)) (g := look ps) (f := fun j => qv (look ps j)) hp hb gx (fun j h0 h1 => ⟨?_, rfl⟩) q
    · rw [← hs.ofV] at this
      exact this
    · by_cases z : (look ps j).1 = 0
      · have : look ps j = (0, 1) := by
          unfold look at z ⊢
          cases h : ps.lookup j with
          | none => rfl
          | some a =>
            exfalso
            rw [h] at z
            have hm : (j, a) ∈ ps := by
              obtain ⟨l1, l2, e, _⟩ := List.lookup_eq_some_iff.mp h
              rw [e]; simp
            exact hs.z _ hm z
        rw [this]; exact gd_one (by decide)
      · obtain ⟨m, hm, _, e⟩ := look_out z
        rw [← e]; exact gs m hm
  intro T hT
  refine ite_go (fun c => ?_) fun c => hT
  exfalso
  have c : (!decide (((encVs xs).length : Int) = ((p.rs.map encR).length : Int))) = true := c
  unfold encVs at c
  rw [List.length_map, List.length_map, hl, decide_eq_true rfl] at c
  cases c
theorem ok_floor (A : AllD K mg) (B : Blt mg) : FnOk P w K mg base (CXF P w) 6 A.f_floor A.d_floor ["plan", "pairs", "prices"] (spV K C_floor) :=
  fn_V A.D_floor.F sc_floor b_floor len_floor nice_floor fun cdv A_ outer s H E hr => have hu := hr.units
  vs_cons (vs_set (i := 3) sc_floor.nd rfl (Or.inl lk_floor_rows) (v_ix (o_ix rfl) (v_var (i := 0) rfl (Or.inl lk_floor_plan)) (v_int) (fun _ _ => rfl)))
  (vs_cons (vs_if (vt_cmp (o_ne rfl hu) (v_fnB (f_len rfl) lk_floor_len B.len bt_len (va_Name (v_var (i := 2) rfl (Or.inl lk_floor_prices)) va_nil)) (v_fnB (f_len rfl) lk_floor_len B.len bt_len (va_Name (v_var (i := 3) rfl (Or.inl lk_floor_rows)) va_nil)) (nomark _)) (vs_one (vs_ret (v_non))) (vs_nil))
  (vs_cons (vs_set (i := 4) sc_floor.nd rfl (Or.inl lk_floor_left) (v_tup (va_Name (v_glob (v := .ref A.a_NOUGHT) lk_floor_NOUGHT A.m_NOUGHT rfl A.r_NOUGHT) (va_Name (v_var (i := 1) rfl (Or.inl lk_floor_pairs)) va_nil))))
  (vs_cons (vs_set (i := 5) sc_floor.nd rfl (Or.inl lk_floor_total) (v_glob (v := .ref A.a_NOUGHT) lk_floor_NOUGHT A.m_NOUGHT rfl A.r_NOUGHT))
  (vs_cons (vs_for pown_fn rfl (vi_zip true true rfl lk_floor_zip B.zip (va_Name (v_var (i := 3) rfl (Or.inl lk_floor_rows)) (va_Name (v_var (i := 2) rfl (Or.inl lk_floor_prices)) va_nil))) (pg_tupK rfl rfl (vgs_cons (i := 6) sc_floor.nd rfl (Or.inl lk_floor_row) (.inl rfl) (vgs_cons (i := 7) sc_floor.nd rfl (Or.inl lk_floor_price) (.inl rfl) (vgs_nil)))) (tg_tup rfl) (vs_cons (vs_if (vt_not (vt_tru rfl (v_call rfl (ok_goes_with A B) (hr.mono (by decide)) lk_floor_goes_with A.D_goes_with.m A.D_goes_with.F.kp A.D_goes_with.b passes_fn (va_Call (v_call rfl (ok_sign A B) (hr.mono (by decide)) lk_floor_sign A.D_sign.m A.D_sign.F.kp A.D_sign.b passes_fn (va_Name (v_var (i := 7) rfl (Or.inl lk_floor_price)) va_nil)) (va_Subscript (v_ix (o_ix rfl) (v_var (i := 6) rfl (Or.inl lk_floor_row)) (v_int) (fun _ _ => rfl)) va_nil))))) (vs_one (vs_ret (v_non))) (vs_nil))
  (vs_cons (vs_set (i := 4) sc_floor.nd rfl (Or.inl lk_floor_left) (v_call rfl (ok_added A B) (hr.mono (by decide)) lk_floor_added A.D_added.m A.D_added.F.kp A.D_added.b passes_fn (va_Name (v_var (i := 4) rfl (Or.inl lk_floor_left)) (va_Call (v_call rfl (ok_scaled A B) (hr.mono (by decide)) lk_floor_scaled A.D_scaled.m A.D_scaled.F.kp A.D_scaled.b passes_fn (va_Tuple (v_tup (va_Name (v_glob (v := .ref A.a_NOUGHT) lk_floor_NOUGHT A.m_NOUGHT rfl A.r_NOUGHT) (va_Subscript (v_ix (o_ix rfl) (v_var (i := 6) rfl (Or.inl lk_floor_row)) (v_int) (fun _ _ => rfl)) va_nil))) (va_Call (v_call rfl (ok_minus A B) (hr.mono (by decide)) lk_floor_minus A.D_minus.m A.D_minus.F.kp A.D_minus.b passes_fn (va_Name (v_glob (v := .ref A.a_NOUGHT) lk_floor_NOUGHT A.m_NOUGHT rfl A.r_NOUGHT) (va_Name (v_var (i := 7) rfl (Or.inl lk_floor_price)) va_nil))) va_nil))) va_nil))))
  (vs_one (vs_set (i := 5) sc_floor.nd rfl (Or.inl lk_floor_total) (v_call rfl (ok_plus A B) (hr.mono (by decide)) lk_floor_plus A.D_plus.m A.D_plus.F.kp A.D_plus.b passes_fn (va_Name (v_var (i := 5) rfl (Or.inl lk_floor_total)) (va_Call (v_call rfl (ok_times A B) (hr.mono (by decide)) lk_floor_times A.D_times.m A.D_times.F.kp A.D_times.b passes_fn (va_Name (v_var (i := 7) rfl (Or.inl lk_floor_price)) (va_Subscript (v_ix (o_ix rfl) (v_var (i := 6) rfl (Or.inl lk_floor_row)) (v_int) (fun _ _ => rfl)) va_nil))) va_nil))))))))
  (vs_cons (vs_for pown_fn rfl (vi_seq rfl (v_ix (o_ix rfl) (v_var (i := 4) rfl (Or.inl lk_floor_left)) (v_int) (fun _ _ => rfl))) (pg_tupK rfl rfl (vgs_cons (i := 8) sc_floor.nd rfl (Or.inl lk_floor_number) (.inl rfl) (vgs_cons (i := 9) sc_floor.nd rfl (Or.inl lk_floor_part) (.inl rfl) (vgs_nil)))) (tg_tup rfl) (vs_cons (vs_set (i := 10) sc_floor.nd rfl (Or.inl lk_floor_end) (v_call rfl (ok_end_for A B) (hr.mono (by decide)) lk_floor_end_for A.D_end_for.m A.D_end_for.F.kp A.D_end_for.b passes_fn (va_Subscript (v_ix (o_ix rfl) (v_ix (o_ix rfl) (v_var (i := 0) rfl (Or.inl lk_floor_plan)) (v_int) (fun _ _ => rfl)) (v_var (i := 8) rfl (Or.inl lk_floor_number)) (fun _ _ => rfl)) (va_Name (v_var (i := 9) rfl (Or.inl lk_floor_part)) va_nil))))
  (vs_cons (vs_if (vt_cmp o_is (v_var (i := 10) rfl (Or.inl lk_floor_end)) (v_non) (nomark _)) (vs_one (vs_ret (v_non))) (vs_nil))
  (vs_one (vs_set (i := 5) sc_floor.nd rfl (Or.inl lk_floor_total) (v_call rfl (ok_plus A B) (hr.mono (by decide)) lk_floor_plus A.D_plus.m A.D_plus.F.kp A.D_plus.b passes_fn (va_Name (v_var (i := 5) rfl (Or.inl lk_floor_total)) (va_Call (v_call rfl (ok_times A B) (hr.mono (by decide)) lk_floor_times A.D_times.m A.D_times.F.kp A.D_times.b passes_fn (va_Name (v_var (i := 9) rfl (Or.inl lk_floor_part)) (va_Name (v_var (i := 10) rfl (Or.inl lk_floor_end)) va_nil))) va_nil))))))))
  (vs_one (vs_ret (v_var (i := 5) rfl (Or.inl lk_floor_total)))))))))
end
end Pw
set_option Elab.async false
set_option linter.all false
set_option maxRecDepth 100000
set_option maxHeartbeats 4000000
namespace Pw
open PySem L2
seal PE PT PW PA PS PSs PG PGs PI PIf PO
section
variable {P : Program} {w : World} {K : PySem.W.Frag} {mg : Str -> Option Value} {base : Heap} {f : Addr} {fd : FuncData}
theorem look_gd {n k : Nat} {ps : Pq} (hs : PsS n ps) (gs : ∀ m ∈ ps, Gd (k + 1) m.2) (j : Int) : Gd (k + 1) (look ps j) := by
  by_cases z : (look ps j).1 = 0
  · have : look ps j = (0, 1) := by
      unfold look at z ⊢
      cases h : ps.lookup j with
      | none => rfl
      | some a =>
        exfalso
        rw [h] at z
        have hm : (j, a) ∈ ps := by
          obtain ⟨l1, l2, e, _⟩ := List.lookup_eq_some_iff.mp h
          rw [e]; simp
        exact hs.z _ hm z
    rw [this]; exact gd_one (by omega)
  · obtain ⟨m, hm, _, e⟩ := look_out z
    rw [← e]; exact gs m hm
theorem neg_fb {k : Nat} {a : Fq} (h : Fb k a) : Fb k (0 - a.1, a.2) := ⟨by show (0 - a.1).natAbs < _; rw [Int.zero_sub, Int.natAbs_neg]; exact h.1, h.2⟩
def b_l_floor_b2 : Sv := vFor (vSeqI (vOp wIx (vVar 7) (vC (.int 1)))) (gT [5, 6]) (vPut 4 (vVar 5) (vCall C_l_plus [vIxO 4 (vVar 5), vCall C_l_times [vTup [vOp wSub (vC (.int 0)) (vOp wIx (vVar 8) (vC (.int 0))), vOp wIx (vVar 8) (vC (.int 1))], vVar 6]]))
def b_l_floor_b1s : Sv := vSet 3 (vCall C_l_plus [vVar 3, vCall C_l_times [vVar 8, vOp wIx (vVar 7) (vC (.int 3))]])
def b_l_floor_b1 : Sv := vSeq b_l_floor_b1s b_l_floor_b2
def b_l_floor_b0s : Sv := vIfS (vOr (vAnd (vCmp wEq (vOp wIx (vVar 7) (vC (.int 2))) (vC (.str "<="))) (vCmp wGt (vOp wIx (vVar 8) (vC (.int 0))) (vC (.int 0)))) (vAnd (vCmp wEq (vOp wIx (vVar 7) (vC (.int 2))) (vC (.str ">="))) (vCmp wLt (vOp wIx (vVar 8) (vC (.int 0))) (vC (.int 0))))) (vRet (vC .non)) (vNext)
def b_l_floor_b0 : Sv := vSeq b_l_floor_b0s b_l_floor_b1
def b_l_floor_f2 : Sv := vSet 3 (vCall C_l_plus [vVar 3, vCall C_l_times [vVar 6, vVar 10]])
def b_l_floor_f1s : Sv := vIfS (vCmp wIs (vVar 10) (vC .non)) (vRet (vC .non)) (vNext)
def b_l_floor_f1 : Sv := vSeq b_l_floor_f1s b_l_floor_f2
def b_l_floor_f0s : Sv := vSet 10 (vIf (vCmp wGt (vOp wIx (vVar 6) (vC (.int 0))) (vC (.int 0))) (vOp wIx (vVar 9) (vC (.int 2))) (vOp wIx (vVar 9) (vC (.int 3))))
def b_l_floor_f0 : Sv := vSeq b_l_floor_f0s b_l_floor_f1
def b_l_floor_5 : Sv := vRet (vVar 3)
def b_l_floor_4s : Sv := vFrz 4 (vFor (vZip true false (vOp wIx (vVar 0) (vC (.int 0))) (vVar 4)) (gT [9, 6]) (vIfS (vCmp wNe (vOp wIx (vVar 6) (vC (.int 0))) (vC (.int 0))) (b_l_floor_f0) (vNext)))
def b_l_floor_4 : Sv := vSeq b_l_floor_4s b_l_floor_5
def b_l_floor_3s : Sv := vFor (vZip true true (vOp wIx (vVar 0) (vC (.int 1))) (vVar 2)) (gT [7, 8]) (b_l_floor_b0)
def b_l_floor_3 : Sv := vSeq b_l_floor_3s b_l_floor_4
def b_l_floor_2s : Sv := vFor (vSeqI (vVar 1)) (gT [5, 6]) (vPut 4 (vVar 5) (vVar 6))
def b_l_floor_2 : Sv := vSeq b_l_floor_2s b_l_floor_3
def b_l_floor_1s : Sv := vNewC 4 1 [] (vSeqI (vOp wIx (vVar 0) (vC (.int 0)))) (gV 0) (vYes) (vTup [vC (.int 0), vC (.int 1)])
def b_l_floor_1 : Sv := vSeq b_l_floor_1s b_l_floor_2
def b_l_floor_0s : Sv := vSet 3 (vTup [vC (.int 0), vC (.int 1)])
def b_l_floor : Sv :=
  vSeq b_l_floor_0s b_l_floor_1
def C_l_floor : Ct := fun ts P => ∃ (n : Nat) (p : Pln) (ps : Pq) (xs : List Fq), ts = [encPl p, encP ps, .tup (encVs xs)] /\ PlOk n p /\ (∀ r ∈ p.rs, Gd 31 r.bd) /\ PsS n ps /\ (∀ m ∈ ps, Gd 33 m.2) /\ xs.length = p.rs.length /\ (∀ x ∈ xs, Gd 31 x) /\ ∀ o : Option Fq, (∀ a, o = some a -> Fb 7000 a /\ 0 < a.2) -> o.map qv = floorQ p ps xs -> P (.ok (.va (encO o)))
theorem sc_l_floor : FnScope ["_law_plan", "_law_pairs_here", "_law_prices", "_law_found", "_law_left", "_law_number", "_law_part", "_law_row_here", "_law_price_here", "_law_unknown_here", "_law_end"] ["_law_plan", "_law_pairs_here", "_law_prices"] (defScope s_l_floor) := ⟨rfl, rfl, rfl, by decide +kernel, rfl, by decide +kernel, by decide +kernel⟩
theorem lk_l_floor__law_plan : Lk s_l_floor "_law_plan" .local := by decide +kernel
theorem lk_l_floor__law_pairs_here : Lk s_l_floor "_law_pairs_here" .local := by decide +kernel
theorem lk_l_floor__law_prices : Lk s_l_floor "_law_prices" .local := by decide +kernel
theorem lk_l_floor__law_found : Lk s_l_floor "_law_found" .local := by decide +kernel
theorem lk_l_floor__law_left : Lk s_l_floor "_law_left" .local := by decide +kernel
theorem lk_l_floor__law_number : Lk s_l_floor "_law_number" .local := by decide +kernel
theorem lk_l_floor__law_part : Lk s_l_floor "_law_part" .local := by decide +kernel
theorem lk_l_floor__law_row_here : Lk s_l_floor "_law_row_here" .local := by decide +kernel
theorem lk_l_floor__law_price_here : Lk s_l_floor "_law_price_here" .local := by decide +kernel
theorem lk_l_floor__law_unknown_here : Lk s_l_floor "_law_unknown_here" .local := by decide +kernel
theorem lk_l_floor__law_end : Lk s_l_floor "_law_end" .local := by decide +kernel
theorem lk_l_floor__law_plus : Lk s_l_floor "_law_plus" .globalImplicit := by decide +kernel
theorem lk_l_floor__law_times : Lk s_l_floor "_law_times" .globalImplicit := by decide +kernel
theorem lk_l_floor_zip : Lk s_l_floor "zip" .globalImplicit := by decide +kernel
theorem len_l_floor : ∀ ts Q, C_l_floor ts Q -> ts.length = 3 := fun ts Q ⟨_, _, _, _, e, _⟩ => by rw [e]; rfl
section
variable {Q : Ans Sl -> Prop} {n : Nat} {p : Pln} {ps : Pq} {xs : List Fq} {D : Addr}
theorem lfl_f1 {K : En -> Prop} {P : Fl -> En -> Prop} {t v : Fq} {u : Un} {l x5 x7 x8 : Sl} (o : Option Fq) (go : GdO 60 o) (k : Nat) (ft : Fb k t) (tp : 0 < t.2) (fv : Fb 1400 v) (vp : 0 < v.2) (hk : k <= 8000)
    (h0 : o = none -> P (.rt (.va .non)) [.va (encPl p), .va (encP ps), .va (.tup (encVs xs)), .va (encF t), l, x5, .va (encF v), x7, x8, .va (encU u), .va .non])
    (h1 : ∀ e, o = some e -> K [.va (encPl p), .va (encP ps), .va (.tup (encVs xs)), .va (encF (rPl t (rTi v e))), l, x5, .va (encF v), x7, x8, .va (encU u), .va (encF e)]) : b_l_floor_f1 [.va (encPl p), .va (encP ps), .va (.tup (encVs xs)), .va (encF t), l, x5, .va (encF v), x7, x8, .va (encU u), .va (encO o)] (turnK K P) := by
  unfold b_l_floor_f1
  cases o with
  | none => exact h0 rfl
  | some e =>
    have ge := go e rfl
    have be := ge.m (show 60 <= 100000 by decide)
    have f3 := rTi_fb fv ge.2
    exact ⟨⟨fv.m1 (by omega), be.1⟩, ⟨fv.m2 (by omega), be.2⟩, ⟨ft.m1 (by omega), f3.m2 (by omega)⟩, ⟨f3.m1 (by omega), ft.m2 (by omega)⟩, ⟨ft.m2 (by omega), f3.m2 (by omega)⟩, h1 e rfl⟩
theorem lfl_4 {ls : List Fq} {f : Int -> Rat} {t : Fq} {a b c d : Sl} (hp : PlOk n p) (hl : ls.length = n) (hg : ∀ j, 0 <= j -> j < (n : Int) -> Fb 1400 (valAt ls j) /\ 0 < (valAt ls j).2 /\ qv (valAt ls j) = f j) (ft : Fb 400 t) (tp : 0 < t.2) (q : ∀ o : Option Fq, (∀ a, o = some a -> Fb 7000 a /\ 0 < a.2) -> o.map qv = finQ f p.us 0 (qv t) -> Q (.ok (.va (encO o)))) : b_l_floor_4 [.va (encPl p), .va (encP ps), .va (.tup (encVs xs)), .va (encF t), .ow D (encVs ls), a, b, c, d, .un, .un] (bodyK Q) := by
  have n4 := hp.n4
  have ul := hp.ul
  suffices key : ∀ T : Sv, (∀ (t' : Fq) (w a b c d e g : Sl), Q (.ok (.va (encF t'))) -> T [.va (encPl p), .va (encP ps), .va (.tup (encVs xs)), .va (encF t'), w, a, b, c, d, e, g] (bodyK Q)) -> vSeq b_l_floor_4s T [.va (encPl p), .va (encP ps), .va (.tup (encVs xs)), .va (encF t), .ow D (encVs ls), a, b, c, d, .un, .un] (bodyK Q) from key b_l_floor_5 fun t' w a b c d e g h => h
  intro T hT
  refine forW_by (fun i ρ => ∃ (t' : Fq) (x y z : Sl), ρ = [.va (encPl p), .va (encP ps), .va (.tup (encVs xs)), .va (encF t'), .va (.lst (encVs ls)), a, x, c, d, y, z] /\ finQ f (p.us.drop i) i (qv t') = finQ f p.us 0 (qv t) /\ Fb (400 + 1461 * i) t' /\ 0 < t'.2) ⟨t, _, _, _, rfl, rfl, ft, tp⟩ (fun i x ρ e hi K k => ?_) fun ρ hi => ?_
  · obtain ⟨t', x, y, z, rfl, ef, gt', tp'⟩ := hi
    rw [zip_enc, List.getElem?_map] at e
    obtain ⟨⟨u, v⟩, hz, rfl⟩ := Option.map_eq_some_iff.mp e
    obtain ⟨hu, hv⟩ := List.getElem?_zip_eq_some.mp hz
    have hil : i < p.us.length := (List.getElem?_eq_some_iff.mp hu).1
    obtain ⟨gl, gh⟩ := hp.us u (List.mem_of_getElem? hu)
    have ev : valAt ls (i : Int) = v := by
      unfold valAt
      rw [Int.toNat_natCast, List.getD, hv]
      rfl
    obtain ⟨fv, vp, qe⟩ := hg i (by omega) (by omega)
    rw [ev] at fv vp qe
    rw [drop_at hu, finQ_cons] at ef
    refine ⟨_, rfl, ite_go (fun cc => ?_) fun cc => ?_⟩
    · have cc : ¬ v.1 = 0 := by simpa using cc
      rw [← qe, if_neg fun z => cc ((qv_zero vp).mp z)] at ef
      suffices key2 : ∀ (T2 : Sv) (P2 : Fl -> En -> Prop), (∀ o : Option Fq, GdO 60 o -> (if 0 < qv v then u.lo else u.hi) = o -> T2 [.va (encPl p), .va (encP ps), .va (.tup (encVs xs)), .va (encF t'), .va (.lst (encVs ls)), a, .va (encF v), c, d, .va (encU u), .va (encO o)] P2) -> vSeq b_l_floor_f0s T2 [.va (encPl p), .va (encP ps), .va (.tup (encVs xs)), .va (encF t'), .va (.lst (encVs ls)), a, .va (encF v), c, d, .va (encU u), z] P2 by
        refine key2 b_l_floor_f1 _ fun o go eo => ?_
        rw [eo] at ef
        refine lfl_f1 o go _ gt' tp' fv vp (by omega) (fun e0 => ?_) fun e0 ee => ?_
        · subst e0
          exact q none (fun a h => by cases h) ef
        · subst ee
          have ge := go e0 rfl
          have p3 : 0 < (rTi v e0).2 := Int.mul_pos vp ge.1.pos
          refine k _ ⟨_, _, _, _, rfl, ?_, (rPl_fb gt' (rTi_fb fv ge.2)).mono (by omega), Int.mul_pos tp' p3⟩
          rw [qv_rpl tp' p3, qv_rti vp ge.1.pos]
          exact ef
      intro T2 P2 h2
      refine ite_go (fun c2 => ?_) fun c2 => ?_
      · exact h2 u.lo gl (by rw [if_pos ((qv_pos vp).mpr (of_decide_eq_true c2))])
      · exact h2 u.hi gh (by rw [if_neg fun z => of_decide_eq_false c2 ((qv_pos vp).mp z)])
    · have cc : v.1 = 0 := by simpa using cc
      rw [← qe, if_pos ((qv_zero vp).mpr cc)] at ef
      exact k _ ⟨_, _, _, _, rfl, ef, gt'.mono (by omega), tp'⟩
  · obtain ⟨t', x, y, z, rfl, ef, gt', tp'⟩ := hi
    have zl : (zipL (p.us.map encU) (encVs ls)).length = p.us.length := by
      rw [zip_enc, List.length_map, List.length_zip]; omega
    rw [zl] at ef gt'
    rw [List.drop_length] at ef
    exact hT t' _ _ _ _ _ _ _ (q (some t') (fun a h => by cases h; exact ⟨gt'.mono (by omega), tp'⟩) ef)
theorem lfl_b2 {ls : List Fq} {f : Int -> Rat} {t x : Fq} {r : Rw} {a b : Sl} {i : Nat} {K : En -> Prop} {P : Fl -> En -> Prop} (hp : PlOk n p) (ro : RwOk n r) (gx : Gd 31 x) (hi : i <= 5) (hl : ls.length = n) (hg : ∀ j, 0 <= j -> j < (n : Int) -> Fb (33 + 256 * i) (valAt ls j) /\ 0 < (valAt ls j).2 /\ qv (valAt ls j) = f j)
    (k : ∀ (ls : List Fq) (a b : Sl), ls.length = n -> (∀ j, 0 <= j -> j < (n : Int) -> Fb (33 + 256 * (i + 1)) (valAt ls j) /\ 0 < (valAt ls j).2 /\ qv (valAt ls j) = subQ (qv x) r.ps f j) -> K [.va (encPl p), .va (encP ps), .va (.tup (encVs xs)), .va (encF t), .ow D (encVs ls), a, b, .va (encR r), .va (encF x), .un, .un]) : b_l_floor_b2 [.va (encPl p), .va (encP ps), .va (.tup (encVs xs)), .va (encF t), .ow D (encVs ls), a, b, .va (encR r), .va (encF x), .un, .un] (turnK K P) := by
  unfold b_l_floor_b2
  have n4 := hp.n4
  have rl := ro.ps.l
  refine forW_by (fun w ρ => ∃ (ls : List Fq) (a b : Sl), ρ = [.va (encPl p), .va (encP ps), .va (.tup (encVs xs)), .va (encF t), .ow D (encVs ls), a, b, .va (encR r), .va (encF x), .un, .un] /\ ls.length = n /\ ∀ j, 0 <= j -> j < (n : Int) -> Fb (33 + 256 * i + 64 * w) (valAt ls j) /\ 0 < (valAt ls j).2 /\ qv (valAt ls j) = subQ (qv x) (r.ps.take w) f j) ⟨ls, a, b, rfl, hl, hg⟩ (fun w y ρ e hi' K2 kk => ?_) fun ρ hi' => ?_
  · obtain ⟨ls, a, b, rfl, hl, hg⟩ := hi'
    rw [List.getElem?_map] at e
    obtain ⟨m, hm, rfl⟩ := Option.map_eq_some_iff.mp e
    have hw : w < r.ps.length := (List.getElem?_eq_some_iff.mp hm).1
    obtain ⟨gm, m0, m1⟩ := ro.ps.it m (List.mem_of_getElem? hm)
    obtain ⟨fl, lp, le⟩ := hg m.1 m0 m1
    have fn := neg_fb gx.2
    have f3 := rTi_fb fn gm.2
    have p3 : 0 < (rTi (0 - x.1, x.2) m.2).2 := Int.mul_pos gx.1.pos gm.1.pos
    have bm := gm.m (show 31 <= 100000 by decide)
    have hat : atI (encVs ls) m.1 = some (encF (valAt ls m.1)) := by
      obtain ⟨t, h1, h2⟩ := atI_in (l := encVs ls) m0 (by unfold encVs; rw [List.length_map]; omega)
      rw [h1, ← h2, enc_at m0 (by omega)]
    have hlen : (encVs ls).length = n := by unfold encVs; rw [List.length_map]; exact hl
    have hix : ixN (encVs ls).length m.1 = some m.1.toNat := by unfold ixN; rw [hlen, if_pos m0, if_pos m1]
    refine ⟨_, rfl, ?_⟩
    show (match atI (encVs ls) m.1 with | some t => _ | none => _)
    rw [hat]
    refine ⟨⟨fn.m1 (by decide), bm.1⟩, ⟨fn.m2 (by decide), bm.2⟩, ⟨fl.m1 (by omega), f3.m2 (by decide)⟩, ⟨f3.m1 (by decide), fl.m2 (by omega)⟩, ⟨fl.m2 (by omega), f3.m2 (by decide)⟩, ?_⟩
    show (match ixN (encVs ls).length m.1 with | some j => _ | none => _)
    rw [hix]
    refine kk _ ⟨ls.set m.1.toNat (rPl (valAt ls m.1) (rTi (0 - x.1, x.2) m.2)), .va (.int m.1), .va (encF m.2), ?_, by rw [List.length_set]; exact hl, fun j h0 h1 => ?_⟩
    · unfold encVs; rw [List.map_set]; rfl
    · rw [valAt_set m0 (by omega) h0, take_next hm, subQ_snoc]
      by_cases e : j = m.1
      · rw [e, updF_at, updQ_at]
        refine ⟨(rPl_fb fl f3).mono (by omega), Int.mul_pos lp p3, ?_⟩
        rw [qv_rpl lp p3, qv_rti (a := (0 - x.1, x.2)) gx.1.pos gm.1.pos, le]
        have : qv (0 - x.1, x.2) = - qv x := by
          unfold qv
          have e1 : ((0 - x.1 : Int) : Rat) = - (x.1 : Rat) := by grind
          dsimp only
          rw [e1]
          have := icast_ne (show x.2 ≠ 0 by have := gx.1.pos; omega)
          grind
        rw [this]
      · rw [updF_ne e, updQ_ne e]
        obtain ⟨z1, z2, z3⟩ := hg j h0 h1
        exact ⟨z1.mono (by omega), z2, z3⟩
  · obtain ⟨ls, a, b, rfl, hl, hg⟩ := hi'
    rw [List.length_map] at hg
    rw [List.take_length] at hg
    exact k ls a b hl fun j h0 h1 => ⟨(hg j h0 h1).1.mono (by omega), (hg j h0 h1).2⟩
theorem lfl_3 {ls : List Fq} {f : Int -> Rat} {a b : Sl} (hp : PlOk n p) (hb : ∀ r ∈ p.rs, Gd 31 r.bd) (hx : ∀ x ∈ xs, Gd 31 x) (hl : ls.length = n) (hg : ∀ j, 0 <= j -> j < (n : Int) -> Fb 33 (valAt ls j) /\ 0 < (valAt ls j).2 /\ qv (valAt ls j) = f j) (q : ∀ o : Option Fq, (∀ a, o = some a -> Fb 7000 a /\ 0 < a.2) -> o.map qv = rowsQ p.us (p.rs.zip xs) f 0 -> Q (.ok (.va (encO o)))) : b_l_floor_3 [.va (encPl p), .va (encP ps), .va (.tup (encVs xs)), .va (encF (0, 1)), .ow D (encVs ls), a, b, .un, .un, .un, .un] (bodyK Q) := by
  have rl := hp.rl
  suffices key : ∀ T : Sv, (∀ (ls : List Fq) (f : Int -> Rat) (t : Fq) (a b c d : Sl), ls.length = n -> (∀ j, 0 <= j -> j < (n : Int) -> Fb 1400 (valAt ls j) /\ 0 < (valAt ls j).2 /\ qv (valAt ls j) = f j) -> Fb 400 t -> 0 < t.2 -> (∀ o : Option Fq, (∀ a, o = some a -> Fb 7000 a /\ 0 < a.2) -> o.map qv = finQ f p.us 0 (qv t) -> Q (.ok (.va (encO o)))) -> T [.va (encPl p), .va (encP ps), .va (.tup (encVs xs)), .va (encF t), .ow D (encVs ls), a, b, c, d, .un, .un] (bodyK Q)) -> vSeq b_l_floor_3s T [.va (encPl p), .va (encP ps), .va (.tup (encVs xs)), .va (encF (0, 1)), .ow D (encVs ls), a, b, .un, .un, .un, .un] (bodyK Q) from key b_l_floor_4 fun ls f t a b c d h1 h2 h3 h4 h5 => lfl_4 hp h1 h2 h3 h4 h5
  intro T hT
  have zl : (p.rs.zip xs).length <= 5 := by rw [List.length_zip]; omega
  refine forW_by (fun i ρ => ∃ (ls : List Fq) (f' : Int -> Rat) (t : Fq) (a b c d : Sl), ρ = [.va (encPl p), .va (encP ps), .va (.tup (encVs xs)), .va (encF t), .ow D (encVs ls), a, b, c, d, .un, .un] /\ ls.length = n /\ (∀ j, 0 <= j -> j < (n : Int) -> Fb (33 + 256 * i) (valAt ls j) /\ 0 < (valAt ls j).2 /\ qv (valAt ls j) = f' j) /\ Fb (1 + 63 * i) t /\ 0 < t.2 /\ rowsQ p.us ((p.rs.zip xs).drop i) f' (qv t) = rowsQ p.us (p.rs.zip xs) f 0) ⟨ls, f, (0, 1), a, b, .un, .un, rfl, hl, hg, (gd_one (by decide)).2, by decide, by rw [qv_one]; rfl⟩ (fun i x ρ e hi K k => ?_) fun ρ hi => ?_
  · obtain ⟨ls, f', t, a, b, c, d, rfl, hl, hg', gt, tp, ef⟩ := hi
    rw [zip_rx, List.getElem?_map] at e
    obtain ⟨⟨r, x⟩, hz, rfl⟩ := Option.map_eq_some_iff.mp e
    have hil : i < (p.rs.zip xs).length := (List.getElem?_eq_some_iff.mp hz).1
    have hm := List.of_mem_zip (List.mem_of_getElem? hz)
    have ro := hp.rs r hm.1
    have gx := hx x hm.2
    have gbd := hb r hm.1
    rw [drop_at hz, rowsQ_cons] at ef
    refine ⟨_, rfl, ?_⟩
    suffices key2 : ∀ (T2 : Sv) (P2 : Fl -> En -> Prop), (∀ ρ, P2 (.rt (.va .non)) ρ = Q (.ok (.va .non))) -> (gwB (sgF x) r.mark = true -> T2 [.va (encPl p), .va (encP ps), .va (.tup (encVs xs)), .va (encF t), .ow D (encVs ls), a, b, .va (encR r), .va (encF x), .un, .un] P2) -> vSeq b_l_floor_b0s T2 [.va (encPl p), .va (encP ps), .va (.tup (encVs xs)), .va (encF t), .ow D (encVs ls), a, b, .va (encR r), .va (encF x), .un, .un] P2 by
      refine key2 b_l_floor_b1 _ (fun _ => rfl) fun cg => ?_
      rw [if_pos cg] at ef
      have f3 := rTi_fb gx.2 gbd.2
      have p3 : 0 < (rTi x r.bd).2 := Int.mul_pos gx.1.pos gbd.1.pos
      have bx := gx.m (show 31 <= 100000 by decide)
      have bb := gbd.m (show 31 <= 100000 by decide)
      suffices key3 : ∀ (T3 : Sv) (P3 : Fl -> En -> Prop), T3 [.va (encPl p), .va (encP ps), .va (.tup (encVs xs)), .va (encF (rPl t (rTi x r.bd))), .ow D (encVs ls), a, b, .va (encR r), .va (encF x), .un, .un] P3 -> vSeq b_l_floor_b1s T3 [.va (encPl p), .va (encP ps), .va (.tup (encVs xs)), .va (encF t), .ow D (encVs ls), a, b, .va (encR r), .va (encF x), .un, .un] P3 from key3 b_l_floor_b2 _ (lfl_b2 hp ro gx (by omega) hl hg' fun ls a b hl hg2 => k _ ⟨ls, _, _, _, _, _, _, rfl, hl, hg2, (rPl_fb gt f3).mono (by omega), Int.mul_pos tp p3, by rw [qv_rpl tp p3, qv_rti gx.1.pos gbd.1.pos]; exact ef⟩)
      intro T3 P3 h3
      exact ⟨⟨bx.1, bb.1⟩, ⟨bx.2, bb.2⟩, ⟨gt.m1 (by omega), f3.m2 (by decide)⟩, ⟨f3.m1 (by decide), gt.m2 (by omega)⟩, ⟨gt.m2 (by omega), f3.m2 (by decide)⟩, h3⟩
    intro T2 P2 hP h2
    have bad : gwB (sgF x) r.mark = false -> P2 (.rt (.va .non)) [.va (encPl p), .va (encP ps), .va (.tup (encVs xs)), .va (encF t), .ow D (encVs ls), a, b, .va (encR r), .va (encF x), .un, .un] := fun c => by
      rw [if_neg (by rw [c]; decide)] at ef
      rw [hP]
      exact q none (fun a h => by cases h) ef
    have good : ¬ ((r.mark = "<=" /\ 0 < x.1) ∨ (r.mark = ">=" /\ x.1 < 0)) -> gwB (sgF x) r.mark = true := fun h => by
      cases e : gwB (sgF x) r.mark with
      | true => rfl
      | false => exact absurd (gw_bad.mp e) h
    refine ite_go (fun c1 => ite_go (fun c2 => bad (gw_bad.mpr (.inl ⟨of_decide_eq_true c1, of_decide_eq_true c2⟩))) fun c2 => ite_go (fun c3 => ?_) fun c3 => h2 (good ?_)) fun c1 => ite_go (fun c3 => ite_go (fun c4 => bad (gw_bad.mpr (.inr ⟨of_decide_eq_true c3, of_decide_eq_true c4⟩))) fun c4 => h2 (good ?_)) fun c3 => h2 (good ?_)
    · have c1 : r.mark = "<=" := of_decide_eq_true c1
      have c3 : r.mark = ">=" := of_decide_eq_true c3
      rw [c1] at c3
      exact absurd c3 (by decide)
    · rintro (⟨_, z⟩ | ⟨z, _⟩)
      · exact of_decide_eq_false c2 z
      · exact of_decide_eq_false c3 z
    · rintro (⟨z, _⟩ | ⟨_, z⟩)
      · exact of_decide_eq_false c1 z
      · exact of_decide_eq_false c4 z
    · rintro (⟨z, _⟩ | ⟨z, _⟩)
      · exact of_decide_eq_false c1 z
      · exact of_decide_eq_false c3 z
  · obtain ⟨ls, f', t, a, b, c, d, rfl, hl, hg', gt, tp, ef⟩ := hi
    rw [zip_rx, List.length_map] at ef gt hg'
    rw [List.drop_length] at ef
    refine hT ls f' t a b c d hl (fun j h0 h1 => ⟨(hg' j h0 h1).1.mono (by omega), (hg' j h0 h1).2⟩) (gt.mono (by omega)) tp fun o ho e => q o ho ?_
    rw [e]
    exact ef
end
theorem nice_l_floor : ∀ ts Q, C_l_floor ts Q -> bodyC 11 b_l_floor ts Q := by
  rintro _ Q ⟨n, p, ps, xs, rfl, hp, hb, hs, gs, hl, gx, q⟩
  have n4 := hp.n4
  have ul := hp.ul
  suffices key : ∀ T : Sv, (∀ D (ls : List Fq) (a b : Sl), ls.length = n -> (∀ j, 0 <= j -> j < (n : Int) -> valAt ls j = look ps j) -> T [.va (encPl p), .va (encP ps), .va (.tup (encVs xs)), .va (encF (0, 1)), .ow D (encVs ls), a, b, .un, .un, .un, .un] (bodyK Q)) -> bodyC 11 (vSeq b_l_floor_0s (vSeq b_l_floor_1s (vSeq b_l_floor_2s T))) [encPl p, encP ps, .tup (encVs xs)] Q by
    refine key b_l_floor_3 fun D ls a b h1 h2 => lfl_3 (f := fun j => qv (look ps j)) hp hb gx h1 (fun j h0 h3 => ?_) q
    rw [h2 j h0 h3]
    have gl : Gd 33 (look ps j) := look_gd hs gs j
    exact ⟨gl.2, gl.1.pos, rfl⟩
  intro T hT
  refine ⟨few_line (by rw [List.length_map]; omega), ?_⟩
  refine compW_enc encU (fun _ => encF (0, 1)) (fun u hu Ky Kn k => ⟨_, rfl, rfl, rfl, k⟩) fun D => ?_
  refine forW_by (fun i ρ => ∃ (ls : List Fq) (a b : Sl), ρ = [.va (encPl p), .va (encP ps), .va (.tup (encVs xs)), .va (encF (0, 1)), .ow D (encVs ls), a, b, .un, .un, .un, .un] /\ ls.length = n /\ ∀ j, 0 <= j -> j < (n : Int) -> valAt ls j = look (ps.take i) j) ⟨p.us.map fun _ => (0, 1), .un, .un, by unfold encVs; rw [List.map_map]; rfl, by rw [List.length_map]; exact ul, fun j h0 h1 => ?_⟩ (fun i x ρ e hi K k => ?_) fun ρ hi => ?_
  · unfold valAt
    have : j.toNat < p.us.length := by omega
    rw [List.getD, List.getElem?_map, List.getElem?_eq_getElem this]
    rfl
  · obtain ⟨ls, a, b, rfl, hl, he⟩ := hi
    rw [List.getElem?_map] at e
    obtain ⟨m, hm, rfl⟩ := Option.map_eq_some_iff.mp e
    obtain ⟨m0, m1⟩ := hs.i m (List.mem_of_getElem? hm)
    have hlen : (encVs ls).length = n := by unfold encVs; rw [List.length_map]; exact hl
    have hix : ixN (encVs ls).length m.1 = some m.1.toNat := by unfold ixN; rw [hlen, if_pos m0, if_pos m1]
    refine ⟨_, rfl, ?_⟩
    show (match ixN (encVs ls).length m.1 with | some j => _ | none => _)
    rw [hix]
    refine k _ ⟨ls.set m.1.toNat m.2, .va (.int m.1), .va (encF m.2), ?_, by rw [List.length_set]; exact hl, fun j h0 h1 => ?_⟩
    · unfold encVs; rw [List.map_set]; rfl
    · rw [valAt_set m0 (by omega) h0, take_next hm]
      have nd : ((ps.take (i + 1)).map (·.1)).Nodup := rise_nodup (hs.r.sublist (List.take_sublist _ _))
      rw [take_next hm, List.map_append, List.nodup_append] at nd
      have nm : m.1 ∉ (ps.take i).map (·.1) := fun z => nd.2.2 _ z m.1 (by simp) rfl
      rw [show [m] = [(m.1, m.2)] from rfl, look_app nm]
      unfold updF
      rw [he j h0 h1]
  · obtain ⟨ls, a, b, rfl, hl, he⟩ := hi
    rw [List.length_map, List.take_length] at he
    exact hT D ls a b hl he
theorem ok_l_floor (A : AllD K mg) (B : Blt mg) : FnOk P w K mg base (CXF P w) 2 A.f_l_floor A.d_l_floor ["_law_plan", "_law_pairs_here", "_law_prices"] (spV K C_l_floor) :=
  fn_V A.D_l_floor.F sc_l_floor b_l_floor len_l_floor nice_l_floor fun cdv A_ outer s H E hr => have hu := hr.units
  vs_cons (vs_set (i := 3) sc_l_floor.nd rfl (Or.inl lk_l_floor__law_found) (v_tup (va_Constant (v_int) (va_Constant (v_int) va_nil))))
  (vs_cons (vs_newC (i0 := 4) sc_l_floor.nd rfl lk_l_floor__law_left rfl (frees_of ["_law_unknown_here"] [] ["_law_plan", "_law_pairs_here", "_law_prices", "_law_found", "_law_left", "_law_number", "_law_part", "_law_row_here", "_law_price_here", "_law_unknown_here", "_law_end"] (by decide +kernel)) (noFree rfl) (by decide +kernel) rfl (by decide +kernel) (fun y hy => PySem.mem_of_lookup hy) rfl (tg_name 0) (keeps_name (by decide)) noOw_name (vi_seq rfl (v_ix (o_ix rfl) (v_var (i := 0) rfl (Or.inl lk_l_floor__law_plan)) (v_int) (fun _ _ => rfl))) (fun cl C s H fp pins => pg_name (i := 0) (show (["_law_unknown_here"] : List Str).Nodup by decide +kernel) rfl (Or.inl (c_loc (by decide +kernel))) (.inr (c_loc (by decide +kernel)))) (fun cl C s H fp pins => vif_nil) (fun cl C s H fp pins => v_tup (va_Constant (v_int) (va_Constant (v_int) va_nil))))
  (vs_cons (vs_for pown_fn rfl (vi_seq rfl (v_var (i := 1) rfl (Or.inl lk_l_floor__law_pairs_here))) (pg_tupK rfl rfl (vgs_cons (i := 5) sc_l_floor.nd rfl (Or.inl lk_l_floor__law_number) (.inl rfl) (vgs_cons (i := 6) sc_l_floor.nd rfl (Or.inl lk_l_floor__law_part) (.inl rfl) (vgs_nil)))) (tg_tup rfl) (vs_one (vs_put (i := 4) rfl (Or.inl lk_l_floor__law_left) (v_var (i := 6) rfl (Or.inl lk_l_floor__law_part)) (v_var (i := 5) rfl (Or.inl lk_l_floor__law_number)))))
  (vs_cons (vs_for pown_fn rfl (vi_zip true true rfl lk_l_floor_zip B.zip (va_Subscript (v_ix (o_ix rfl) (v_var (i := 0) rfl (Or.inl lk_l_floor__law_plan)) (v_int) (fun _ _ => rfl)) (va_Name (v_var (i := 2) rfl (Or.inl lk_l_floor__law_prices)) va_nil))) (pg_tupK rfl rfl (vgs_cons (i := 7) sc_l_floor.nd rfl (Or.inl lk_l_floor__law_row_here) (.inl rfl) (vgs_cons (i := 8) sc_l_floor.nd rfl (Or.inl lk_l_floor__law_price_here) (.inl rfl) (vgs_nil)))) (tg_tup rfl) (vs_cons (vs_if (PW.pt (vw_or (PW.pt (vw_and (vt_cmp (o_eq rfl hu) (v_ix (o_ix rfl) (v_var (i := 7) rfl (Or.inl lk_l_floor__law_row_here)) (v_int) (fun _ _ => rfl)) (v_str) (nomark _)) (vw_and1 (vt_cmp o_gt (v_ix (o_ix rfl) (v_var (i := 8) rfl (Or.inl lk_l_floor__law_price_here)) (v_int) (fun _ _ => rfl)) (v_int) (nomark _))))) (vw_or1 (PW.pt (vw_and (vt_cmp (o_eq rfl hu) (v_ix (o_ix rfl) (v_var (i := 7) rfl (Or.inl lk_l_floor__law_row_here)) (v_int) (fun _ _ => rfl)) (v_str) (nomark _)) (vw_and1 (vt_cmp o_lt (v_ix (o_ix rfl) (v_var (i := 8) rfl (Or.inl lk_l_floor__law_price_here)) (v_int) (fun _ _ => rfl)) (v_int) (nomark _)))))))) (vs_one (vs_ret (v_non))) (vs_nil))
  (vs_cons (vs_set (i := 3) sc_l_floor.nd rfl (Or.inl lk_l_floor__law_found) (v_call rfl (ok_l_plus A B) (hr.mono (by decide)) lk_l_floor__law_plus A.D_l_plus.m A.D_l_plus.F.kp A.D_l_plus.b passes_fn (va_Name (v_var (i := 3) rfl (Or.inl lk_l_floor__law_found)) (va_Call (v_call rfl (ok_l_times A B) (hr.mono (by decide)) lk_l_floor__law_times A.D_l_times.m A.D_l_times.F.kp A.D_l_times.b passes_fn (va_Name (v_var (i := 8) rfl (Or.inl lk_l_floor__law_price_here)) (va_Subscript (v_ix (o_ix rfl) (v_var (i := 7) rfl (Or.inl lk_l_floor__law_row_here)) (v_int) (fun _ _ => rfl)) va_nil))) va_nil))))
  (vs_one (vs_for pown_fn rfl (vi_seq rfl (v_ix (o_ix rfl) (v_var (i := 7) rfl (Or.inl lk_l_floor__law_row_here)) (v_int) (fun _ _ => rfl))) (pg_tupK rfl rfl (vgs_cons (i := 5) sc_l_floor.nd rfl (Or.inl lk_l_floor__law_number) (.inl rfl) (vgs_cons (i := 6) sc_l_floor.nd rfl (Or.inl lk_l_floor__law_part) (.inl rfl) (vgs_nil)))) (tg_tup rfl) (vs_one (vs_put (i := 4) rfl (Or.inl lk_l_floor__law_left) (v_call rfl (ok_l_plus A B) (hr.mono (by decide)) lk_l_floor__law_plus A.D_l_plus.m A.D_l_plus.F.kp A.D_l_plus.b passes_fn (va_Subscript (v_ixO (i := 4) rfl rfl (Or.inl lk_l_floor__law_left) (v_var (i := 5) rfl (Or.inl lk_l_floor__law_number)) (fun _ _ => rfl)) (va_Call (v_call rfl (ok_l_times A B) (hr.mono (by decide)) lk_l_floor__law_times A.D_l_times.m A.D_l_times.F.kp A.D_l_times.b passes_fn (va_Tuple (v_tup (va_BinOp (v_op o_sub (v_int) (v_ix (o_ix rfl) (v_var (i := 8) rfl (Or.inl lk_l_floor__law_price_here)) (v_int) (fun _ _ => rfl))) (va_Subscript (v_ix (o_ix rfl) (v_var (i := 8) rfl (Or.inl lk_l_floor__law_price_here)) (v_int) (fun _ _ => rfl)) va_nil))) (va_Name (v_var (i := 6) rfl (Or.inl lk_l_floor__law_part)) va_nil))) va_nil))) (v_var (i := 5) rfl (Or.inl lk_l_floor__law_number)))))))))
  (vs_cons (vs_frz 4 (vs_for pown_fn rfl (vi_zip true false rfl lk_l_floor_zip B.zip (va_Subscript (v_ix (o_ix rfl) (v_var (i := 0) rfl (Or.inl lk_l_floor__law_plan)) (v_int) (fun _ _ => rfl)) (va_Name (v_var (i := 4) rfl (Or.inl lk_l_floor__law_left)) va_nil))) (pg_tupK rfl rfl (vgs_cons (i := 9) sc_l_floor.nd rfl (Or.inl lk_l_floor__law_unknown_here) (.inl rfl) (vgs_cons (i := 6) sc_l_floor.nd rfl (Or.inl lk_l_floor__law_part) (.inl rfl) (vgs_nil)))) (tg_tup rfl) (vs_one (vs_if (vt_cmp (o_ne rfl hu) (v_ix (o_ix rfl) (v_var (i := 6) rfl (Or.inl lk_l_floor__law_part)) (v_int) (fun _ _ => rfl)) (v_int) (nomark _)) (vs_cons (vs_set (i := 10) sc_l_floor.nd rfl (Or.inl lk_l_floor__law_end) (v_ifE (vt_cmp o_gt (v_ix (o_ix rfl) (v_var (i := 6) rfl (Or.inl lk_l_floor__law_part)) (v_int) (fun _ _ => rfl)) (v_int) (nomark _)) (v_ix (o_ix rfl) (v_var (i := 9) rfl (Or.inl lk_l_floor__law_unknown_here)) (v_int) (fun _ _ => rfl)) (v_ix (o_ix rfl) (v_var (i := 9) rfl (Or.inl lk_l_floor__law_unknown_here)) (v_int) (fun _ _ => rfl))))
  (vs_cons (vs_if (vt_cmp o_is (v_var (i := 10) rfl (Or.inl lk_l_floor__law_end)) (v_non) (nomark _)) (vs_one (vs_ret (v_non))) (vs_nil))
  (vs_one (vs_set (i := 3) sc_l_floor.nd rfl (Or.inl lk_l_floor__law_found) (v_call rfl (ok_l_plus A B) (hr.mono (by decide)) lk_l_floor__law_plus A.D_l_plus.m A.D_l_plus.F.kp A.D_l_plus.b passes_fn (va_Name (v_var (i := 3) rfl (Or.inl lk_l_floor__law_found)) (va_Call (v_call rfl (ok_l_times A B) (hr.mono (by decide)) lk_l_floor__law_times A.D_l_times.m A.D_l_times.F.kp A.D_l_times.b passes_fn (va_Name (v_var (i := 6) rfl (Or.inl lk_l_floor__law_part)) (va_Name (v_var (i := 10) rfl (Or.inl lk_l_floor__law_end)) va_nil))) va_nil))))))) (vs_nil)))))
  (vs_one (vs_ret (v_var (i := 3) rfl (Or.inl lk_l_floor__law_found))))))))
end
end Pw
set_option Elab.async false
set_option linter.all false
set_option maxRecDepth 100000
set_option maxHeartbeats 4000000
namespace Pw
open PySem L2
seal PE PT PW PA PS PSs PG PGs PI PIf PO
section
variable {P : Program} {w : World} {K : PySem.W.Frag} {mg : Str -> Option Value} {base : Heap} {f : Addr} {fd : FuncData}
def stepB (u : Un) (s : Fq) : Bool := !((u.lo.isSome && decide (s.1 < 0)) || (u.hi.isSome && decide (0 < s.1)))
def ldQ (p : Pln) (vals : List Fq) : Bool := ((p.us.zip vals).all fun x => stepB x.1 x.2) && ((p.rs.all fun r => stQ (dotQ vals r.ps) r.mark 0) && decide (dotQ vals (turnP p) < 0))
theorem turn_it {n : Nat} {p : Pln} (hp : PlOk n p) : ∀ m ∈ turnP p, Gd 33 m.2 /\ 0 <= m.1 /\ m.1 < n := by
  unfold turnP
  split
  · exact fun m hm => ⟨(hp.gp.it m hm).1.mono (by decide), (hp.gp.it m hm).2⟩
  · intro m hm
    obtain ⟨x, hx, rfl⟩ := List.mem_map.mp hm
    exact ⟨(gd_one (k := 1) (by decide)).mn (hp.gp.it x hx).1, (hp.gp.it x hx).2⟩
theorem turn_len {p : Pln} : (turnP p).length = p.gp.length := by
  unfold turnP
  split
  · rfl
  · rw [List.length_map]
def b_leads_on_3 : Sv := vRet (vOp wLt (vCall C_sign [vCall C_pairs_at [vCall C_turned [vVar 0], vVar 1]]) (vC (.int 0)))
def b_leads_on_2s : Sv := vIfS (vNot (vTest truT (vFn wAll [vComp 4 [1] (vSeqI (vOp wIx (vVar 0) (vC (.int 1)))) (gT [0, 1, 2, 3]) (vYes) (vCall C_stands [vCall C_pairs_at [vVar 1, vVar 4], vVar 2, vC (.tup [.int 0, .int 1])])]))) (vRet (vC (.bl false))) (vNext)
def b_leads_on_2 : Sv := vSeq b_leads_on_2s b_leads_on_3
def b_leads_on_1s : Sv := vFor (vZip true true (vOp wIx (vVar 0) (vC (.int 0))) (vVar 1)) (gT [2, 3]) (vIfS (vOr (vAnd (vCmp wIsN (vOp wIx (vVar 2) (vC (.int 2))) (vC .non)) (vCmp wLt (vCall C_sign [vVar 3]) (vC (.int 0)))) (vAnd (vCmp wIsN (vOp wIx (vVar 2) (vC (.int 3))) (vC .non)) (vCmp wGt (vCall C_sign [vVar 3]) (vC (.int 0))))) (vRet (vC (.bl false))) (vNext))
def b_leads_on_1 : Sv := vSeq b_leads_on_1s b_leads_on_2
def b_leads_on_0s : Sv := vIfS (vCmp wNe (vFn wLen [vVar 1]) (vFn wLen [vOp wIx (vVar 0) (vC (.int 0))])) (vRet (vC (.bl false))) (vNext)
def b_leads_on : Sv :=
  vSeq b_leads_on_0s b_leads_on_1
def C_leads_on : Ct := fun ts P => (∃ n p vals, ts = [encPl p, .tup (encVs vals)] /\ PlOk n p /\ vals.length = n /\ (∀ x ∈ vals, Gd 200 x) /\ P (.ok (.va (.bl (ldQ p vals)))))
theorem sc_leads_on : FnScope ["plan", "way", "unknown", "step"] ["plan", "way"] (defScope s_leads_on) := ⟨rfl, rfl, rfl, by decide +kernel, rfl, by decide +kernel, by decide +kernel⟩
theorem lk_leads_on_plan : Lk s_leads_on "plan" .local := by decide +kernel
theorem lk_leads_on_way : Lk s_leads_on "way" .cell := by decide +kernel
theorem lk_leads_on_unknown : Lk s_leads_on "unknown" .local := by decide +kernel
theorem lk_leads_on_step : Lk s_leads_on "step" .local := by decide +kernel
theorem lk_leads_on_all : Lk s_leads_on "all" .globalImplicit := by decide +kernel
theorem lk_leads_on_len : Lk s_leads_on "len" .globalImplicit := by decide +kernel
theorem lk_leads_on_pairs_at : Lk s_leads_on "pairs_at" .globalImplicit := by decide +kernel
theorem lk_leads_on_sign : Lk s_leads_on "sign" .globalImplicit := by decide +kernel
theorem lk_leads_on_turned : Lk s_leads_on "turned" .globalImplicit := by decide +kernel
theorem lk_leads_on_zip : Lk s_leads_on "zip" .globalImplicit := by decide +kernel
theorem len_leads_on : ∀ ts Q, C_leads_on ts Q -> ts.length = 2 := fun ts Q ⟨_, _, _, e, _⟩ => by rw [e]; rfl
theorem nice_leads_on : ∀ ts Q, C_leads_on ts Q -> bodyC 4 b_leads_on ts Q := by
  rintro _ Q ⟨n, p, vals, rfl, hp, hv, gv, q⟩
  have n4 := hp.n4
  have gpl := hp.gp.l
  have tl := turn_len (p := p)
  have tit := turn_it hp
  have ht : ∀ m ∈ turnP p, Gd 33 m.2 /\ 0 <= m.1 /\ m.1 < vals.length := by rw [hv]; exact tit
  unfold ldQ at q
  suffices key : ∀ T : Sv, (∀ a b, Q (.ok (.va (.bl ((p.rs.all fun r => stQ (dotQ vals r.ps) r.mark 0) && decide (dotQ vals (turnP p) < 0))))) -> T [.va (encPl p), .va (.tup (encVs vals)), a, b] (bodyK Q)) -> bodyC 4 (vSeq b_leads_on_0s (vSeq b_leads_on_1s T)) [encPl p, .tup (encVs vals)] Q by
    refine key b_leads_on_2 fun a b q => ?_
    suffices key2 : ∀ T : Sv, (Q (.ok (.va (.bl (decide (dotQ vals (turnP p) < 0))))) -> T [.va (encPl p), .va (.tup (encVs vals)), a, b] (bodyK Q)) -> vSeq b_leads_on_2s T [.va (encPl p), .va (.tup (encVs vals)), a, b] (bodyK Q) by
      refine key2 b_leads_on_3 fun q => ?_
      unfold b_leads_on_3
      obtain ⟨g, e⟩ := wrt_ok gv (turnP p) (0, 1) 1 ht (gd_one (by decide))
      refine ⟨n, p, rfl, hp, turnP p, vals, _, 33, 200, rfl, .inl rfl, gv, ht, by omega, wrtF vals (0, 1) (turnP p), rfl, ?_⟩
      rw [qv_one, Rat.zero_add] at e
      rw [← e] at q
      rw [show decide (qv (wrtF vals (0, 1) (turnP p)) < 0) = decide (sgF (wrtF vals (0, 1) (turnP p)) < 0) from decide_eq_decide.mpr ((qv_neg g.1.pos).trans sg_neg.symm)] at q
      exact q
    intro T hT
    refine ⟨few_line (by rw [List.length_map]; have := hp.rl; omega), ?_⟩
    refine compW_enc encR (fun r => .bl (stQ (dotQ vals r.ps) r.mark 0)) (fun r hr Ky Kn k => ?_) ?_
    · have ro := hp.rs r hr
      obtain ⟨h1, h2⟩ := ro.at hv hp.n4
      obtain ⟨g, e⟩ := wrt_ok gv r.ps (0, 1) 1 h1 (gd_one (by decide))
      have hl := ro.ps.l
      refine ⟨_, rfl, rfl, r.ps, vals, _, 31, 200, rfl, .inl rfl, gv, h1, h2, wrtF vals (0, 1) r.ps, r.mark, (0, 1), _, 1, rfl, g, gd_one (by decide), by omega, rfl, ?_⟩
      rw [e, qv_one, Rat.zero_add]
      exact k
    · have e : (p.rs.map fun r => Tv.bl (stQ (dotQ vals r.ps) r.mark 0)) = (p.rs.map fun r => stQ (dotQ vals r.ps) r.mark 0).map Tv.bl := by rw [List.map_map]; rfl
      rw [e]
      refine optK_mk (all_bl _) ?_
      rw [List.all_map]
      refine ite_go (fun c => ?_) fun c => ?_
      · have c : (p.rs.all fun r => stQ (dotQ vals r.ps) r.mark 0) = false := by
          have c : (!(p.rs.all fun r => stQ (dotQ vals r.ps) r.mark 0)) = true := c
          simpa using c
        rw [c, Bool.false_and] at q
        exact q
      · have c : (p.rs.all fun r => stQ (dotQ vals r.ps) r.mark 0) = true := by
          have c : (!(p.rs.all fun r => stQ (dotQ vals r.ps) r.mark 0)) = false := c
          simpa using c
        rw [c, Bool.true_and] at q
        exact hT q
  intro T hT
  refine ite_go (fun c => ?_) fun c => ?_
  · exfalso
    have c : (!decide (((encVs vals).length : Int) = ((p.us.map encU).length : Int))) = true := c
    unfold encVs at c
    rw [List.length_map, List.length_map, hv, hp.ul, decide_eq_true rfl] at c
    cases c
  refine forW_by (fun i ρ => ∃ a b, ρ = [.va (encPl p), .va (.tup (encVs vals)), a, b] /\ ((p.us.zip vals).take i).all (fun x => stepB x.1 x.2) = true) ⟨_, _, rfl, rfl⟩ (fun i x ρ e hi K k => ?_) fun ρ hi => ?_
  · obtain ⟨a, b, rfl, hb⟩ := hi
    rw [zip_enc, List.getElem?_map] at e
    obtain ⟨⟨u, v⟩, hz, rfl⟩ := Option.map_eq_some_iff.mp e
    have bad : stepB u v = false -> Q (.ok (.va (.bl false))) := fun c => by
      have : ((p.us.zip vals).all fun x => stepB x.1 x.2) = false := by
        rw [List.all_eq_false]
        exact ⟨(u, v), List.mem_of_getElem? hz, by simpa using c⟩
      rw [this, Bool.false_and] at q
      exact q
    have good : stepB u v = true -> K [.va (encPl p), .va (.tup (encVs vals)), .va (encU u), .va (encF v)] := fun c => k _ ⟨_, _, rfl, by rw [take_next hz, List.all_append, hb]; simp [c]⟩
    have eB : stepB u v = !(((!isNon (encO u.lo)) && decide (sgF v < 0)) || ((!isNon (encO u.hi)) && decide (0 < sgF v))) := by
      unfold stepB
      rw [isNon_O, isNon_O, decide_eq_decide.mpr (sg_neg (a := v)), decide_eq_decide.mpr (sg_pos (a := v)), Bool.not_not, Bool.not_not]
    rw [eB] at bad good
    refine ⟨_, rfl, ite_go (fun c1 => ⟨v, rfl, ite_go (fun c2 => bad (by rw [c1, c2]; rfl)) fun c2 => ite_go (fun c3 => ⟨v, rfl, ite_go (fun c4 => bad (by rw [c1, c2, c3, c4]; rfl)) fun c4 => good (by rw [c1, c2, c3, c4]; rfl)⟩) fun c3 => good (by rw [c1, c2, c3]; rfl)⟩) fun c1 => ite_go (fun c3 => ⟨v, rfl, ite_go (fun c4 => bad (by rw [c1, c3, c4]; rfl)) fun c4 => good (by rw [c1, c3, c4]; rfl)⟩) fun c3 => good (by rw [c1, c3]; rfl)⟩
  · obtain ⟨a, b, rfl, hb⟩ := hi
    rw [zip_enc, List.length_map, List.take_length] at hb
    rw [hb, Bool.true_and] at q
    exact hT a b q
theorem ok_leads_on (A : AllD K mg) (B : Blt mg) : FnOk P w K mg base (CXF P w) 7 A.f_leads_on A.d_leads_on ["plan", "way"] (spV K C_leads_on) :=
  fn_V A.D_leads_on.F sc_leads_on b_leads_on len_leads_on nice_leads_on fun cdv A_ outer s H E hr => have hu := hr.units
  vs_cons (vs_if (vt_cmp (o_ne rfl hu) (v_fnB (f_len rfl) lk_leads_on_len B.len bt_len (va_Name (v_var (i := 1) rfl (Or.inr (Or.inl lk_leads_on_way))) va_nil)) (v_fnB (f_len rfl) lk_leads_on_len B.len bt_len (va_Subscript (v_ix (o_ix rfl) (v_var (i := 0) rfl (Or.inl lk_leads_on_plan)) (v_int) (fun _ _ => rfl)) va_nil)) (nomark _)) (vs_one (vs_ret (v_bl))) (vs_nil))
  (vs_cons (vs_for pown_fn rfl (vi_zip true true rfl lk_leads_on_zip B.zip (va_Subscript (v_ix (o_ix rfl) (v_var (i := 0) rfl (Or.inl lk_leads_on_plan)) (v_int) (fun _ _ => rfl)) (va_Name (v_var (i := 1) rfl (Or.inr (Or.inl lk_leads_on_way))) va_nil))) (pg_tupK rfl rfl (vgs_cons (i := 2) sc_leads_on.nd rfl (Or.inl lk_leads_on_unknown) (.inl rfl) (vgs_cons (i := 3) sc_leads_on.nd rfl (Or.inl lk_leads_on_step) (.inl rfl) (vgs_nil)))) (tg_tup rfl) (vs_one (vs_if (PW.pt (vw_or (PW.pt (vw_and (vt_cmp o_isN (v_ix (o_ix rfl) (v_var (i := 2) rfl (Or.inl lk_leads_on_unknown)) (v_int) (fun _ _ => rfl)) (v_non) (nomark _)) (vw_and1 (vt_cmp o_lt (v_call rfl (ok_sign A B) (hr.mono (by decide)) lk_leads_on_sign A.D_sign.m A.D_sign.F.kp A.D_sign.b passes_fn (va_Name (v_var (i := 3) rfl (Or.inl lk_leads_on_step)) va_nil)) (v_int) (nomark _))))) (vw_or1 (PW.pt (vw_and (vt_cmp o_isN (v_ix (o_ix rfl) (v_var (i := 2) rfl (Or.inl lk_leads_on_unknown)) (v_int) (fun _ _ => rfl)) (v_non) (nomark _)) (vw_and1 (vt_cmp o_gt (v_call rfl (ok_sign A B) (hr.mono (by decide)) lk_leads_on_sign A.D_sign.m A.D_sign.F.kp A.D_sign.b passes_fn (va_Name (v_var (i := 3) rfl (Or.inl lk_leads_on_step)) va_nil)) (v_int) (nomark _)))))))) (vs_one (vs_ret (v_bl))) (vs_nil))))
  (vs_cons (vs_if (vt_not (vt_tru rfl (v_fnB (f_all rfl rfl) lk_leads_on_all B.all bt_all (va_ListComp (v_comp rfl (frees_of ["name", "pairs", "mark", "bound"] [("way", 1)] ["plan", "way", "unknown", "step"] (by decide +kernel)) (visC s_leads_on (by decide +kernel)) (by decide +kernel) rfl (by decide +kernel) (fun y hy => PySem.mem_of_lookup hy) rfl (tg_tup rfl) (keeps_tup (by decide)) noOw_tup (vi_seq rfl (v_ix (o_ix rfl) (v_var (i := 0) rfl (Or.inl lk_leads_on_plan)) (v_int) (fun _ _ => rfl))) (fun cl C s H fp pins => pg_tupK rfl rfl (vgs_cons (i := 0) (show (["name", "pairs", "mark", "bound", "way"] : List Str).Nodup by decide +kernel) rfl (Or.inl (c_loc (by decide +kernel))) (.inr (c_loc (by decide +kernel))) (vgs_cons (i := 1) (show (["name", "pairs", "mark", "bound", "way"] : List Str).Nodup by decide +kernel) rfl (Or.inl (c_loc (by decide +kernel))) (.inr (c_loc (by decide +kernel))) (vgs_cons (i := 2) (show (["name", "pairs", "mark", "bound", "way"] : List Str).Nodup by decide +kernel) rfl (Or.inl (c_loc (by decide +kernel))) (.inr (c_loc (by decide +kernel))) (vgs_cons (i := 3) (show (["name", "pairs", "mark", "bound", "way"] : List Str).Nodup by decide +kernel) rfl (Or.inl (c_loc (by decide +kernel))) (.inr (c_loc (by decide +kernel))) (vgs_nil)))))) (fun cl C s H fp pins => vif_nil) (fun cl C s H fp pins => v_call rfl (ok_stands A B) (hr.mono (by decide)) (c_gl (by decide +kernel)) A.D_stands.m A.D_stands.F.kp A.D_stands.b passE0 (va_Call (v_call rfl (ok_pairs_at A B) (hr.mono (by decide)) (c_gl (by decide +kernel)) A.D_pairs_at.m A.D_pairs_at.F.kp A.D_pairs_at.b passE0 (va_Name (v_var (i := 1) rfl (c_vloc (by decide +kernel))) (va_Name (v_var (i := 4) rfl (c_free (by decide +kernel))) va_nil))) (va_Name (v_var (i := 2) rfl (c_vloc (by decide +kernel))) (va_Name (v_glob (v := .ref A.a_NOUGHT) (c_gl (by decide +kernel)) A.m_NOUGHT rfl A.r_NOUGHT) va_nil))))) va_nil)))) (vs_one (vs_ret (v_bl))) (vs_nil))
  (vs_one (vs_ret (v_cmp o_lt (v_call rfl (ok_sign A B) (hr.mono (by decide)) lk_leads_on_sign A.D_sign.m A.D_sign.F.kp A.D_sign.b passes_fn (va_Call (v_call rfl (ok_pairs_at A B) (hr.mono (by decide)) lk_leads_on_pairs_at A.D_pairs_at.m A.D_pairs_at.F.kp A.D_pairs_at.b passes_fn (va_Call (v_call rfl (ok_turned A B) (hr.mono (by decide)) lk_leads_on_turned A.D_turned.m A.D_turned.F.kp A.D_turned.b passes_fn (va_Name (v_var (i := 0) rfl (Or.inl lk_leads_on_plan)) va_nil)) (va_Name (v_var (i := 1) rfl (Or.inr (Or.inl lk_leads_on_way))) va_nil))) va_nil)) (v_int) (nomark _))))))
end
end Pw
set_option Elab.async false
set_option linter.all false
set_option maxRecDepth 100000
set_option maxHeartbeats 4000000
namespace Pw
open PySem L2
seal PE PT PW PA PS PSs PG PGs PI PIf PO
section
variable {P : Program} {w : World} {K : PySem.W.Frag} {mg : Str -> Option Value} {base : Heap} {f : Addr} {fd : FuncData}
def b_l_stands_3 : Sv := vRet (vOp wEq (vVar 3) (vC (.int 0)))
def b_l_stands_2s : Sv := vIfS (vCmp wEq (vVar 1) (vC (.str ">="))) (vRet (vOp wGe (vVar 3) (vC (.int 0)))) (vNext)
def b_l_stands_2 : Sv := vSeq b_l_stands_2s b_l_stands_3
def b_l_stands_1s : Sv := vIfS (vCmp wEq (vVar 1) (vC (.str "<="))) (vRet (vOp wLe (vVar 3) (vC (.int 0)))) (vNext)
def b_l_stands_1 : Sv := vSeq b_l_stands_1s b_l_stands_2
def b_l_stands_0s : Sv := vSet 3 (vCall C_l_order [vVar 0, vVar 2])
def b_l_stands : Sv :=
  vSeq b_l_stands_0s b_l_stands_1
def C_l_stands : Ct := fun ts P => ∃ l m b j k, ts = [encF l, .str m, encF b] /\ Fb j l /\ 0 < l.2 /\ Gd k b /\ j + k <= 7000 /\ P (.ok (.va (.bl (stQ (qv l) m (qv b)))))
theorem sc_l_stands : FnScope ["_law_left", "_law_mark", "_law_bound", "_law_order_here"] ["_law_left", "_law_mark", "_law_bound"] (defScope s_l_stands) := ⟨rfl, rfl, rfl, by decide +kernel, rfl, by decide +kernel, by decide +kernel⟩
theorem lk_l_stands__law_left : Lk s_l_stands "_law_left" .local := by decide +kernel
theorem lk_l_stands__law_mark : Lk s_l_stands "_law_mark" .local := by decide +kernel
theorem lk_l_stands__law_bound : Lk s_l_stands "_law_bound" .local := by decide +kernel
theorem lk_l_stands__law_order_here : Lk s_l_stands "_law_order_here" .local := by decide +kernel
theorem lk_l_stands__law_order : Lk s_l_stands "_law_order" .globalImplicit := by decide +kernel
theorem len_l_stands : ∀ ts Q, C_l_stands ts Q -> ts.length = 3 := fun ts Q ⟨_, _, _, _, _, e, _⟩ => by rw [e]; rfl
theorem bl_eq {Q : Ans Sl -> Prop} {a b : Bool} (e : a = b) (q : Q (.ok (.va (.bl a)))) : Q (.ok (.va (.bl b))) := e ▸ q
theorem nice_l_stands : ∀ ts Q, C_l_stands ts Q -> bodyC 4 b_l_stands ts Q := by
  rintro _ Q ⟨l, m, b, j, k, rfl, fl, hl, gb, h, q⟩
  unfold stQ at q
  have xb := gb.m (show k <= 100000 by omega)
  have hb := gb.1.pos
  refine ⟨⟨fl.m1 (by omega), xb.2⟩, ⟨xb.1, fl.m2 (by omega)⟩, ite_go (fun c1 => ?_) fun c1 => ?_⟩
  · rw [if_pos (of_decide_eq_true c1)] at q
    refine bl_eq (Q := Q) ?_ q
    have := qv_lt hb hl
    by_cases z : qv b < qv l
    · rw [decide_eq_true z, decide_eq_false (by have := this.mp z; omega)]; rfl
    · rw [decide_eq_false z, decide_eq_true (by have : ¬ _ := fun w => z (this.mpr w); omega)]; rfl
  rw [if_neg (of_decide_eq_false c1)] at q
  refine ite_go (fun c2 => ?_) fun c2 => ?_
  · rw [if_pos (of_decide_eq_true c2)] at q
    refine bl_eq (Q := Q) ?_ q
    have := qv_lt hl hb
    by_cases z : qv l < qv b
    · rw [decide_eq_true z, decide_eq_false (by have := this.mp z; omega)]; rfl
    · rw [decide_eq_false z, decide_eq_true (by have : ¬ _ := fun w => z (this.mpr w); omega)]; rfl
  rw [if_neg (of_decide_eq_false c2)] at q
  refine bl_eq (Q := Q) (decide_eq_decide.mpr ?_) q
  rw [qv_eq hl hb]
  omega
theorem ok_l_stands (A : AllD K mg) (B : Blt mg) : FnOk P w K mg base (CXF P w) 2 A.f_l_stands A.d_l_stands ["_law_left", "_law_mark", "_law_bound"] (spV K C_l_stands) :=
  fn_V A.D_l_stands.F sc_l_stands b_l_stands len_l_stands nice_l_stands fun cdv A_ outer s H E hr => have hu := hr.units
  vs_cons (vs_set (i := 3) sc_l_stands.nd rfl (Or.inl lk_l_stands__law_order_here) (v_call rfl (ok_l_order A B) (hr.mono (by decide)) lk_l_stands__law_order A.D_l_order.m A.D_l_order.F.kp A.D_l_order.b passes_fn (va_Name (v_var (i := 0) rfl (Or.inl lk_l_stands__law_left)) (va_Name (v_var (i := 2) rfl (Or.inl lk_l_stands__law_bound)) va_nil))))
  (vs_cons (vs_if (vt_cmp (o_eq rfl hu) (v_var (i := 1) rfl (Or.inl lk_l_stands__law_mark)) (v_str) (nomark _)) (vs_one (vs_ret (v_cmp o_le (v_var (i := 3) rfl (Or.inl lk_l_stands__law_order_here)) (v_int) (nomark _)))) (vs_nil))
  (vs_cons (vs_if (vt_cmp (o_eq rfl hu) (v_var (i := 1) rfl (Or.inl lk_l_stands__law_mark)) (v_str) (nomark _)) (vs_one (vs_ret (v_cmp o_ge (v_var (i := 3) rfl (Or.inl lk_l_stands__law_order_here)) (v_int) (nomark _)))) (vs_nil))
  (vs_one (vs_ret (v_cmp (o_eq rfl hu) (v_var (i := 3) rfl (Or.inl lk_l_stands__law_order_here)) (v_int) (nomark _))))))
def b_l_turned : Sv :=
  vSeq (vSet 1 (vOp wIx (vLst [vC (.int 1), vUn wNeg (vC (.int 1))]) (vFn wInt [vOp wEq (vOp wIx (vOp wIx (vVar 0) (vC (.int 2))) (vC (.int 0))) (vC (.str "most"))])))
  (vRet (vFn wTuple [vComp 2 [1] (vSeqI (vOp wIx (vOp wIx (vVar 0) (vC (.int 2))) (vC (.int 1)))) (gT [0, 1]) (vYes) (vTup [vVar 0, vTup [vOp wMul (vVar 2) (vOp wIx (vVar 1) (vC (.int 0))), vOp wIx (vVar 1) (vC (.int 1))]])]))
def C_l_turned : Ct := fun ts P => ∃ n p, ts = [encPl p] /\ PlOk n p /\ P (.ok (.va (encP (turnP p))))
theorem sc_l_turned : FnScope ["_law_plan", "_law_way"] ["_law_plan"] (defScope s_l_turned) := ⟨rfl, rfl, rfl, by decide +kernel, rfl, by decide +kernel, by decide +kernel⟩
theorem lk_l_turned__law_plan : Lk s_l_turned "_law_plan" .local := by decide +kernel
theorem lk_l_turned__law_way : Lk s_l_turned "_law_way" .cell := by decide +kernel
theorem lk_l_turned_int : Lk s_l_turned "int" .globalImplicit := by decide +kernel
theorem lk_l_turned_tuple : Lk s_l_turned "tuple" .globalImplicit := by decide +kernel
theorem len_l_turned : ∀ ts Q, C_l_turned ts Q -> ts.length = 1 := fun ts Q ⟨_, _, e, _⟩ => by rw [e]; rfl
theorem negF_eq {a : Fq} (h : Red a) : negF a = (-1 * a.1, a.2) := by
  have hp := h.pos
  have r : Red (-1 * a.1, a.2) := ⟨h.1, by show gd (-1 * a.1) a.2 = 1; rw [Int.neg_mul, Int.one_mul, gd_neg_l]; exact h.2⟩
  refine red_qv (mk_red (red_one.mul h)) r ?_
  have e : qv (negF a) = qv (0, 1) - qv a := qv_mn red_one h
  have e2 : qv (-1 * a.1, a.2) = - qv a := by
    unfold qv
    have : ((-1 * a.1 : Int) : Rat) = - (a.1 : Rat) := by grind
    dsimp only
    rw [this]
    have := icast_ne (show a.2 ≠ 0 by omega)
    grind
  show qv (negF a) = _
  rw [e, e2, qv_one]
  grind
theorem nice_l_turned : ∀ ts Q, C_l_turned ts Q -> bodyC 2 b_l_turned ts Q := by
  rintro _ Q ⟨n, p, rfl, hp, q⟩
  unfold turnP at q
  have hl : p.gp.length <= 100000 := by have := hp.gp.l; have := hp.n4; omega
  have go : ∀ w : Int, w.natAbs <= 1 -> Q (.ok (.va (encP (p.gp.map fun m => (m.1, ((w * m.2.1, m.2.2) : Fq)))))) -> (vRet (vFn wTuple [vComp 2 [1] (vSeqI (vOp wIx (vOp wIx (vVar 0) (vC (.int 2))) (vC (.int 1)))) (gT [0, 1]) (vYes) (vTup [vVar 0, vTup [vOp wMul (vVar 2) (vOp wIx (vVar 1) (vC (.int 0))), vOp wIx (vVar 1) (vC (.int 1))]])])) [.va (encPl p), .va (.int w)] (bodyK Q) := fun w hw qq => by
    refine ⟨few_line (by rw [List.length_map]; exact hl), ?_⟩
    refine compW_enc (fun m : Int × Fq => .tup [.int m.1, encF m.2]) (fun m => .tup [.int m.1, encF (w * m.2.1, m.2.2)]) (fun m hm Ky Kn k => ?_) ?_
    · exact ⟨_, rfl, rfl, ⟨small_BM (by omega), ((hp.gp.it m hm).1.m (by decide)).1⟩, rfl, k⟩
    · unfold encP at qq
      rw [List.map_map] at qq
      exact qq
  rcases hp.wy with e | e
  · rw [if_pos e] at q
    have e' : p.gp.map (fun m => (m.1, ((1 * m.2.1, m.2.2) : Fq))) = p.gp := by
      have : p.gp.map (fun m => (m.1, ((1 * m.2.1, m.2.2) : Fq))) = p.gp.map id := List.map_congr_left fun m _ => by rw [Int.one_mul]; rfl
      rw [this, List.map_id]
    rw [← e'] at q
    obtain ⟨us, rs, way, gp, gc⟩ := p
    have e : way = "least" := e
    subst e
    exact go 1 (by decide) q
  · rw [if_neg (by rw [e]; decide)] at q
    have e' : p.gp.map (fun m => (m.1, negF m.2)) = p.gp.map (fun m => (m.1, ((-1 * m.2.1, m.2.2) : Fq))) := List.map_congr_left fun m hm => by rw [negF_eq (hp.gp.it m hm).1.1]
    rw [e'] at q
    obtain ⟨us, rs, way, gp, gc⟩ := p
    have e : way = "most" := e
    subst e
    exact go (-1) (by decide) q
theorem ok_l_turned (A : AllD K mg) (B : Blt mg) : FnOk P w K mg base (CXF P w) 1 A.f_l_turned A.d_l_turned ["_law_plan"] (spV K C_l_turned) :=
  fn_V A.D_l_turned.F sc_l_turned b_l_turned len_l_turned nice_l_turned fun cdv A_ outer s H E hr => have hu := hr.units
  vs_cons (vs_set (i := 1) sc_l_turned.nd rfl (Or.inr lk_l_turned__law_way) (v_ix (o_ix rfl) (v_lst (va_Constant (v_int) (va_UnaryOp (v_un o_neg (v_int)) va_nil))) (v_fnT f_int lk_l_turned_int B.int bt_int (va_Compare (v_cmp (o_eq rfl hu) (v_ix (o_ix rfl) (v_ix (o_ix rfl) (v_var (i := 0) rfl (Or.inl lk_l_turned__law_plan)) (v_int) (fun _ _ => rfl)) (v_int) (fun _ _ => rfl)) (v_str) (nomark _)) va_nil)) (fun _ _ => rfl)))
  (vs_one (vs_ret (v_fnT (f_tuple rfl) lk_l_turned_tuple B.tuple bt_tuple (va_ListComp (v_comp rfl (frees_of ["_law_number", "_law_part"] [("_law_way", 1)] ["_law_plan", "_law_way"] (by decide +kernel)) (visC s_l_turned (by decide +kernel)) (by decide +kernel) rfl (by decide +kernel) (fun y hy => PySem.mem_of_lookup hy) rfl (tg_tup rfl) (keeps_tup (by decide)) noOw_tup (vi_seq rfl (v_ix (o_ix rfl) (v_ix (o_ix rfl) (v_var (i := 0) rfl (Or.inl lk_l_turned__law_plan)) (v_int) (fun _ _ => rfl)) (v_int) (fun _ _ => rfl))) (fun cl C s H fp pins => pg_tupK rfl rfl (vgs_cons (i := 0) (show (["_law_number", "_law_part", "_law_way"] : List Str).Nodup by decide +kernel) rfl (Or.inl (c_loc (by decide +kernel))) (.inr (c_loc (by decide +kernel))) (vgs_cons (i := 1) (show (["_law_number", "_law_part", "_law_way"] : List Str).Nodup by decide +kernel) rfl (Or.inl (c_loc (by decide +kernel))) (.inr (c_loc (by decide +kernel))) (vgs_nil)))) (fun cl C s H fp pins => vif_nil) (fun cl C s H fp pins => v_tup (va_Name (v_var (i := 0) rfl (c_vloc (by decide +kernel))) (va_Tuple (v_tup (va_BinOp (v_op o_mul (v_var (i := 2) rfl (c_free (by decide +kernel))) (v_ix (o_ix rfl) (v_var (i := 1) rfl (c_vloc (by decide +kernel))) (v_int) (fun _ _ => rfl))) (va_Subscript (v_ix (o_ix rfl) (v_var (i := 1) rfl (c_vloc (by decide +kernel))) (v_int) (fun _ _ => rfl)) va_nil))) va_nil)))) va_nil))))
def b_l_pairs_a2 : Sv := vIfS (vAnd (vCmp wGt (vUn (wModC 4) (vVar 4)) (vC (.int 0))) (vCmp wNe (vOp wIx (vVar 5) (vC (.int 0))) (vC (.int 0)))) (vApp 2 (vTup [vVar 3, vVar 5])) (vNext)
def b_l_pairs_a1s : Sv := vSet 5 (vCall C_l_fraction [vUn (wDivC 4) (vVar 4)])
def b_l_pairs_a1 : Sv := vSeq b_l_pairs_a1s b_l_pairs_a2
def b_l_pairs_a0s : Sv := vSet 4 (vCall C_l_mixed [vVar 0, vVar 3])
def b_l_pairs_a0 : Sv := vSeq b_l_pairs_a0s b_l_pairs_a1
def b_l_pairs_2 : Sv := vFrz 2 (vRet (vFn wTuple [vVar 2]))
def b_l_pairs_1s : Sv := vFor (vRng (vVar 1)) (gV 3) (b_l_pairs_a0)
def b_l_pairs_1 : Sv := vSeq b_l_pairs_1s b_l_pairs_2
def b_l_pairs_0s : Sv := vNewL 2 []
def b_l_pairs : Sv :=
  vSeq b_l_pairs_0s b_l_pairs_1
def C_l_pairs : Ct := fun ts P => ∃ (c : Int) (n : Nat), ts = [.int c, .int n] /\ n <= 4 /\ ∀ ps, PsOk n 31 ps -> PsS n ps -> P (.ok (.va (encP ps)))
theorem sc_l_pairs : FnScope ["_law_cell", "_law_many", "_law_found", "_law_k", "_law_number", "_law_part"] ["_law_cell", "_law_many"] (defScope s_l_pairs) := ⟨rfl, rfl, rfl, by decide +kernel, rfl, by decide +kernel, by decide +kernel⟩
theorem lk_l_pairs__law_cell : Lk s_l_pairs "_law_cell" .local := by decide +kernel
theorem lk_l_pairs__law_many : Lk s_l_pairs "_law_many" .local := by decide +kernel
theorem lk_l_pairs__law_found : Lk s_l_pairs "_law_found" .local := by decide +kernel
theorem lk_l_pairs__law_k : Lk s_l_pairs "_law_k" .local := by decide +kernel
theorem lk_l_pairs__law_number : Lk s_l_pairs "_law_number" .local := by decide +kernel
theorem lk_l_pairs__law_part : Lk s_l_pairs "_law_part" .local := by decide +kernel
theorem lk_l_pairs__law_fraction : Lk s_l_pairs "_law_fraction" .globalImplicit := by decide +kernel
theorem lk_l_pairs__law_mixed : Lk s_l_pairs "_law_mixed" .globalImplicit := by decide +kernel
theorem lk_l_pairs_range : Lk s_l_pairs "range" .globalImplicit := by decide +kernel
theorem lk_l_pairs_tuple : Lk s_l_pairs "tuple" .globalImplicit := by decide +kernel
theorem len_l_pairs : ∀ ts Q, C_l_pairs ts Q -> ts.length = 2 := fun ts Q ⟨_, _, e, _⟩ => by rw [e]; rfl
def encM (m : Int × Fq) : Tv := .tup [.int m.1, encF m.2]
theorem nice_l_pairs : ∀ ts Q, C_l_pairs ts Q -> bodyC 6 b_l_pairs ts Q := by
  rintro _ Q ⟨c, n, rfl, hn, q⟩
  intro D
  refine ⟨⟨by omega, by omega⟩, ?_⟩
  refine forW_by (fun i ρ => ∃ (a b d : Sl) (ps : Pq), ρ = [.va (.int c), .va (.int n), .ow D (ps.map encM), a, b, d] /\ ps.length <= i /\ (∀ m ∈ ps, Gd 31 m.2 /\ 0 <= m.1 /\ m.1 < n) /\ (ps.Pairwise fun (a b : Int × Fq) => a.1 < b.1) /\ (∀ m ∈ ps, m.2.1 ≠ 0) /\ ∀ m ∈ ps, m.1 < i) ⟨.un, .un, .un, [], rfl, Nat.le_refl _, fun m hm => (by cases hm), List.Pairwise.nil, fun m hm => (by cases hm), fun m hm => (by cases hm)⟩ (fun i x ρ e hi K k => ?_) fun ρ hi => ?_
  · obtain ⟨a, b, d, ps, rfl, hl, hp, hr, hz, ht⟩ := hi
    obtain ⟨hin, rfl⟩ := rng_get e
    have hin : i < n := by simpa using hin
    refine ⟨_, rfl, c, i, rfl, ⟨by omega, by omega⟩, fun m m0 m1 => ⟨m / 4, rfl, by omega, fun a ga => ?_⟩⟩
    have skip : K [.va (.int c), .va (.int n), .ow D (ps.map encM), .va (.int i), .va (.int m), .va (encF a)] := k _ ⟨_, _, _, ps, rfl, by omega, hp, hr, hz, fun m hm => by have := ht m hm; omega⟩
    refine ite_go (fun _ => ite_go (fun ca => ?_) fun _ => skip) fun _ => skip
    have ca : ¬ a.1 = 0 := by simpa using ca
    refine ⟨(few_line (by rw [List.length_map]; omega)), k _ ⟨.va (.int i), .va (.int m), .va (encF a), ps ++ [((i : Int), a)], ?_, by rw [List.length_append, List.length_singleton]; omega, fun m hm => ?_, ?_, fun m hm => ?_, fun m hm => ?_⟩⟩
    · rw [List.map_append]; rfl
    · rcases List.mem_append.mp hm with h | h
      · exact hp m h
      · rw [List.mem_singleton.mp h]; exact ⟨ga, Int.natCast_nonneg i, by show (i : Int) < n; omega⟩
    · rw [List.pairwise_append]
      refine ⟨hr, List.pairwise_singleton _ _, fun x hx y hy => ?_⟩
      rw [List.mem_singleton.mp hy]
      exact ht x hx
    · rcases List.mem_append.mp hm with h | h
      · exact hz m h
      · rw [List.mem_singleton.mp h]; exact ca
    · rcases List.mem_append.mp hm with h | h
      · have := ht m h; omega
      · rw [List.mem_singleton.mp h]; show (i : Int) < _; omega
  · obtain ⟨a, b, d, ps, rfl, hl, hp, hr, hz, ht⟩ := hi
    rw [rng_len] at hl
    exact q ps ⟨hp, by simpa using hl⟩ ⟨hr, hz, fun m hm => (hp m hm).2⟩
theorem ok_l_pairs (A : AllD K mg) (B : Blt mg) : FnOk P w K mg base (CXF P w) 3 A.f_l_pairs A.d_l_pairs ["_law_cell", "_law_many"] (spV K C_l_pairs) :=
  fn_V A.D_l_pairs.F sc_l_pairs b_l_pairs len_l_pairs nice_l_pairs fun cdv A_ outer s H E hr => have hu := hr.units
  vs_cons (vs_newL (i := 2) sc_l_pairs.nd rfl (Or.inl lk_l_pairs__law_found) va_nil)
  (vs_cons (vs_for pown_fn rfl (vi_rng lk_l_pairs_range B.range (va_Name (v_var (i := 1) rfl (Or.inl lk_l_pairs__law_many)) va_nil)) (pg_name (i := 3) sc_l_pairs.nd rfl (Or.inl lk_l_pairs__law_k) (.inl rfl)) (tg_name 3) (vs_cons (vs_set (i := 4) sc_l_pairs.nd rfl (Or.inl lk_l_pairs__law_number) (v_call rfl (ok_l_mixed A B) (hr.mono (by decide)) lk_l_pairs__law_mixed A.D_l_mixed.m A.D_l_mixed.F.kp A.D_l_mixed.b passes_fn (va_Name (v_var (i := 0) rfl (Or.inl lk_l_pairs__law_cell)) (va_Name (v_var (i := 3) rfl (Or.inl lk_l_pairs__law_k)) va_nil))))
  (vs_cons (vs_set (i := 5) sc_l_pairs.nd rfl (Or.inl lk_l_pairs__law_part) (v_call rfl (ok_l_fraction A B) (hr.mono (by decide)) lk_l_pairs__law_fraction A.D_l_fraction.m A.D_l_fraction.F.kp A.D_l_fraction.b passes_fn (va_BinOp (v_divC (v_var (i := 4) rfl (Or.inl lk_l_pairs__law_number))) va_nil)))
  (vs_one (vs_if (PW.pt (vw_and (vt_cmp o_gt (v_modC (v_var (i := 4) rfl (Or.inl lk_l_pairs__law_number))) (v_int) (nomark _)) (vw_and1 (vt_cmp (o_ne rfl hu) (v_ix (o_ix rfl) (v_var (i := 5) rfl (Or.inl lk_l_pairs__law_part)) (v_int) (fun _ _ => rfl)) (v_int) (nomark _))))) (vs_one (vs_app (i := 2) rfl rfl (Or.inl lk_l_pairs__law_found) (v_tup (va_Name (v_var (i := 3) rfl (Or.inl lk_l_pairs__law_k)) (va_Name (v_var (i := 5) rfl (Or.inl lk_l_pairs__law_part)) va_nil))))) (vs_nil))))))
  (vs_one (vs_frz 2 (vs_ret (v_fnT (f_tuple rfl) lk_l_pairs_tuple B.tuple bt_tuple (va_Name (v_var (i := 2) rfl (Or.inl lk_l_pairs__law_found)) va_nil))))))
def b_l_leads_on_2 : Sv := vRet (vOp wLt (vOp wIx (vCall C_l_worth [vTup [vC (.int 0), vC (.int 1)], vCall C_l_turned [vVar 0], vVar 1]) (vC (.int 0))) (vC (.int 0)))
def b_l_leads_on_1s : Sv := vFor (vSeqI (vOp wIx (vVar 0) (vC (.int 1)))) (gV 4) (vIfS (vNot (vTest truT (vCall C_l_stands [vCall C_l_worth [vTup [vC (.int 0), vC (.int 1)], vOp wIx (vVar 4) (vC (.int 1)), vVar 1], vOp wIx (vVar 4) (vC (.int 2)), vTup [vC (.int 0), vC (.int 1)]]))) (vRet (vC (.bl false))) (vNext))
def b_l_leads_on_1 : Sv := vSeq b_l_leads_on_1s b_l_leads_on_2
def b_l_leads_on_0s : Sv := vFor (vZip true true (vOp wIx (vVar 0) (vC (.int 0))) (vVar 1)) (gT [2, 3]) (vIfS (vOr (vAnd (vCmp wIsN (vOp wIx (vVar 2) (vC (.int 2))) (vC .non)) (vCmp wLt (vOp wIx (vVar 3) (vC (.int 0))) (vC (.int 0)))) (vAnd (vCmp wIsN (vOp wIx (vVar 2) (vC (.int 3))) (vC .non)) (vCmp wGt (vOp wIx (vVar 3) (vC (.int 0))) (vC (.int 0))))) (vRet (vC (.bl false))) (vNext))
def b_l_leads_on : Sv :=
  vSeq b_l_leads_on_0s b_l_leads_on_1
def C_l_leads_on : Ct := fun ts P => (∃ n p vals, ts = [encPl p, .tup (encVs vals)] /\ PlOk n p /\ vals.length = n /\ (∀ x ∈ vals, Gd 200 x) /\ P (.ok (.va (.bl (ldQ p vals)))))
theorem sc_l_leads_on : FnScope ["_law_plan", "_law_way", "_law_unknown_here", "_law_part", "_law_row_here"] ["_law_plan", "_law_way"] (defScope s_l_leads_on) := ⟨rfl, rfl, rfl, by decide +kernel, rfl, by decide +kernel, by decide +kernel⟩
theorem lk_l_leads_on__law_plan : Lk s_l_leads_on "_law_plan" .local := by decide +kernel
theorem lk_l_leads_on__law_way : Lk s_l_leads_on "_law_way" .local := by decide +kernel
theorem lk_l_leads_on__law_unknown_here : Lk s_l_leads_on "_law_unknown_here" .local := by decide +kernel
theorem lk_l_leads_on__law_part : Lk s_l_leads_on "_law_part" .local := by decide +kernel
theorem lk_l_leads_on__law_row_here : Lk s_l_leads_on "_law_row_here" .local := by decide +kernel
theorem lk_l_leads_on__law_stands : Lk s_l_leads_on "_law_stands" .globalImplicit := by decide +kernel
theorem lk_l_leads_on__law_turned : Lk s_l_leads_on "_law_turned" .globalImplicit := by decide +kernel
theorem lk_l_leads_on__law_worth : Lk s_l_leads_on "_law_worth" .globalImplicit := by decide +kernel
theorem lk_l_leads_on_zip : Lk s_l_leads_on "zip" .globalImplicit := by decide +kernel
theorem len_l_leads_on : ∀ ts Q, C_l_leads_on ts Q -> ts.length = 2 := fun ts Q ⟨_, _, _, e, _⟩ => by rw [e]; rfl
theorem nice_l_leads_on : ∀ ts Q, C_l_leads_on ts Q -> bodyC 5 b_l_leads_on ts Q := by
  rintro _ Q ⟨n, p, vals, rfl, hp, hv, gv, q⟩
  have n4 := hp.n4
  have gpl := hp.gp.l
  have tl := turn_len (p := p)
  have tit := turn_it hp
  have ht : ∀ m ∈ turnP p, Gd 33 m.2 /\ 0 <= m.1 /\ m.1 < vals.length := by rw [hv]; exact tit
  unfold ldQ at q
  suffices key : ∀ T : Sv, (∀ a b, Q (.ok (.va (.bl ((p.rs.all fun r => stQ (dotQ vals r.ps) r.mark 0) && decide (dotQ vals (turnP p) < 0))))) -> T [.va (encPl p), .va (.tup (encVs vals)), a, b, .un] (bodyK Q)) -> bodyC 5 (vSeq b_l_leads_on_0s T) [encPl p, .tup (encVs vals)] Q by
    refine key b_l_leads_on_1 fun a b q => ?_
    suffices key2 : ∀ T : Sv, (∀ c, Q (.ok (.va (.bl (decide (dotQ vals (turnP p) < 0))))) -> T [.va (encPl p), .va (.tup (encVs vals)), a, b, c] (bodyK Q)) -> vSeq b_l_leads_on_1s T [.va (encPl p), .va (.tup (encVs vals)), a, b, .un] (bodyK Q) by
      refine key2 b_l_leads_on_2 fun c q => ?_
      unfold b_l_leads_on_2
      obtain ⟨lf, lp, le⟩ := lw_ok gv (turnP p) (0, 1) 1 ht (gd_one (by decide)).2 (by decide)
      refine ⟨n, p, rfl, hp, (0, 1), turnP p, vals, _, 33, 200, 1, rfl, .inl rfl, gv, ht, (gd_one (by decide)).2, by decide, by omega, ?_⟩
      rw [qv_one, Rat.zero_add] at le
      rw [← le, show decide (qv (lwF vals (0, 1) (turnP p)) < 0) = decide ((lwF vals (0, 1) (turnP p)).1 < 0) from decide_eq_decide.mpr (qv_neg lp)] at q
      exact q
    intro T hT
    refine forW_by (fun i ρ => ∃ c, ρ = [.va (encPl p), .va (.tup (encVs vals)), a, b, c] /\ (p.rs.take i).all (fun r => stQ (dotQ vals r.ps) r.mark 0) = true) ⟨_, rfl, rfl⟩ (fun i x ρ e hi K k => ?_) fun ρ hi => ?_
    · obtain ⟨c, rfl, hb2⟩ := hi
      rw [List.getElem?_map] at e
      obtain ⟨r, hr, rfl⟩ := Option.map_eq_some_iff.mp e
      have ro := hp.rs r (List.mem_of_getElem? hr)
      obtain ⟨h1, h2⟩ := ro.at hv hp.n4
      obtain ⟨lf, lp, le⟩ := lw_ok gv r.ps (0, 1) 1 h1 (gd_one (by decide)).2 (by decide)
      have hl := ro.ps.l
      rw [qv_one, Rat.zero_add] at le
      refine ⟨_, rfl, (0, 1), r.ps, vals, _, 31, 200, 1, rfl, .inl rfl, gv, h1, (gd_one (by decide)).2, by decide, h2, lwF vals (0, 1) r.ps, r.mark, (0, 1), _, 1, rfl, lf, lp, gd_one (by decide), by omega, ite_go (fun d => ?_) fun d => ?_⟩
      · rw [le, qv_one] at d
        have d : stQ (dotQ vals r.ps) r.mark 0 = false := by simpa using d
        have : (p.rs.all fun r => stQ (dotQ vals r.ps) r.mark 0) = false := by
          rw [List.all_eq_false]
          exact ⟨r, List.mem_of_getElem? hr, by simpa using d⟩
        rw [this, Bool.false_and] at q
        exact q
      · rw [le, qv_one] at d
        have d : stQ (dotQ vals r.ps) r.mark 0 = true := by simpa using d
        refine k _ ⟨_, rfl, ?_⟩
        rw [take_next hr, List.all_append, hb2]
        simp [d]
    · obtain ⟨c, rfl, hb2⟩ := hi
      rw [List.length_map, List.take_length] at hb2
      rw [hb2, Bool.true_and] at q
      exact hT c q
  intro T hT
  refine forW_by (fun i ρ => ∃ a b, ρ = [.va (encPl p), .va (.tup (encVs vals)), a, b, .un] /\ ((p.us.zip vals).take i).all (fun x => stepB x.1 x.2) = true) ⟨_, _, rfl, rfl⟩ (fun i x ρ e hi K k => ?_) fun ρ hi => ?_
  · obtain ⟨a, b, rfl, hb⟩ := hi
    rw [zip_enc, List.getElem?_map] at e
    obtain ⟨⟨u, v⟩, hz, rfl⟩ := Option.map_eq_some_iff.mp e
    have bad : stepB u v = false -> Q (.ok (.va (.bl false))) := fun c => by
      have : ((p.us.zip vals).all fun x => stepB x.1 x.2) = false := by
        rw [List.all_eq_false]
        exact ⟨(u, v), List.mem_of_getElem? hz, by simpa using c⟩
      rw [this, Bool.false_and] at q
      exact q
    have good : stepB u v = true -> K [.va (encPl p), .va (.tup (encVs vals)), .va (encU u), .va (encF v), .un] := fun c => k _ ⟨_, _, rfl, by rw [take_next hz, List.all_append, hb]; simp [c]⟩
    have eB : stepB u v = !(((!isNon (encO u.lo)) && decide (v.1 < 0)) || ((!isNon (encO u.hi)) && decide (0 < v.1))) := by
      unfold stepB
      rw [isNon_O, isNon_O, Bool.not_not, Bool.not_not]
    rw [eB] at bad good
    refine ⟨_, rfl, ite_go (fun c1 => ite_go (fun c2 => bad (by rw [c1, c2]; rfl)) fun c2 => ite_go (fun c3 => ite_go (fun c4 => bad (by rw [c1, c2, c3, c4]; rfl)) fun c4 => good (by rw [c1, c2, c3, c4]; rfl)) fun c3 => good (by rw [c1, c2, c3]; rfl)) fun c1 => ite_go (fun c3 => ite_go (fun c4 => bad (by rw [c1, c3, c4]; rfl)) fun c4 => good (by rw [c1, c3, c4]; rfl)) fun c3 => good (by rw [c1, c3]; rfl)⟩
  · obtain ⟨a, b, rfl, hb⟩ := hi
    rw [zip_enc, List.length_map, List.take_length] at hb
    rw [hb, Bool.true_and] at q
    exact hT a b q
theorem ok_l_leads_on (A : AllD K mg) (B : Blt mg) : FnOk P w K mg base (CXF P w) 3 A.f_l_leads_on A.d_l_leads_on ["_law_plan", "_law_way"] (spV K C_l_leads_on) :=
  fn_V A.D_l_leads_on.F sc_l_leads_on b_l_leads_on len_l_leads_on nice_l_leads_on fun cdv A_ outer s H E hr => have hu := hr.units
  vs_cons (vs_for pown_fn rfl (vi_zip true true rfl lk_l_leads_on_zip B.zip (va_Subscript (v_ix (o_ix rfl) (v_var (i := 0) rfl (Or.inl lk_l_leads_on__law_plan)) (v_int) (fun _ _ => rfl)) (va_Name (v_var (i := 1) rfl (Or.inl lk_l_leads_on__law_way)) va_nil))) (pg_tupK rfl rfl (vgs_cons (i := 2) sc_l_leads_on.nd rfl (Or.inl lk_l_leads_on__law_unknown_here) (.inl rfl) (vgs_cons (i := 3) sc_l_leads_on.nd rfl (Or.inl lk_l_leads_on__law_part) (.inl rfl) (vgs_nil)))) (tg_tup rfl) (vs_one (vs_if (PW.pt (vw_or (PW.pt (vw_and (vt_cmp o_isN (v_ix (o_ix rfl) (v_var (i := 2) rfl (Or.inl lk_l_leads_on__law_unknown_here)) (v_int) (fun _ _ => rfl)) (v_non) (nomark _)) (vw_and1 (vt_cmp o_lt (v_ix (o_ix rfl) (v_var (i := 3) rfl (Or.inl lk_l_leads_on__law_part)) (v_int) (fun _ _ => rfl)) (v_int) (nomark _))))) (vw_or1 (PW.pt (vw_and (vt_cmp o_isN (v_ix (o_ix rfl) (v_var (i := 2) rfl (Or.inl lk_l_leads_on__law_unknown_here)) (v_int) (fun _ _ => rfl)) (v_non) (nomark _)) (vw_and1 (vt_cmp o_gt (v_ix (o_ix rfl) (v_var (i := 3) rfl (Or.inl lk_l_leads_on__law_part)) (v_int) (fun _ _ => rfl)) (v_int) (nomark _)))))))) (vs_one (vs_ret (v_bl))) (vs_nil))))
  (vs_cons (vs_for pown_fn rfl (vi_seq rfl (v_ix (o_ix rfl) (v_var (i := 0) rfl (Or.inl lk_l_leads_on__law_plan)) (v_int) (fun _ _ => rfl))) (pg_name (i := 4) sc_l_leads_on.nd rfl (Or.inl lk_l_leads_on__law_row_here) (.inl rfl)) (tg_name 4) (vs_one (vs_if (vt_not (vt_tru rfl (v_call rfl (ok_l_stands A B) (hr.mono (by decide)) lk_l_leads_on__law_stands A.D_l_stands.m A.D_l_stands.F.kp A.D_l_stands.b passes_fn (va_Call (v_call rfl (ok_l_worth A B) (hr.mono (by decide)) lk_l_leads_on__law_worth A.D_l_worth.m A.D_l_worth.F.kp A.D_l_worth.b passes_fn (va_Tuple (v_tup (va_Constant (v_int) (va_Constant (v_int) va_nil))) (va_Subscript (v_ix (o_ix rfl) (v_var (i := 4) rfl (Or.inl lk_l_leads_on__law_row_here)) (v_int) (fun _ _ => rfl)) (va_Name (v_var (i := 1) rfl (Or.inl lk_l_leads_on__law_way)) va_nil)))) (va_Subscript (v_ix (o_ix rfl) (v_var (i := 4) rfl (Or.inl lk_l_leads_on__law_row_here)) (v_int) (fun _ _ => rfl)) (va_Tuple (v_tup (va_Constant (v_int) (va_Constant (v_int) va_nil))) va_nil)))))) (vs_one (vs_ret (v_bl))) (vs_nil))))
  (vs_one (vs_ret (v_cmp o_lt (v_ix (o_ix rfl) (v_call rfl (ok_l_worth A B) (hr.mono (by decide)) lk_l_leads_on__law_worth A.D_l_worth.m A.D_l_worth.F.kp A.D_l_worth.b passes_fn (va_Tuple (v_tup (va_Constant (v_int) (va_Constant (v_int) va_nil))) (va_Call (v_call rfl (ok_l_turned A B) (hr.mono (by decide)) lk_l_leads_on__law_turned A.D_l_turned.m A.D_l_turned.F.kp A.D_l_turned.b passes_fn (va_Name (v_var (i := 0) rfl (Or.inl lk_l_leads_on__law_plan)) va_nil)) (va_Name (v_var (i := 1) rfl (Or.inl lk_l_leads_on__law_way)) va_nil)))) (v_int) (fun _ _ => rfl)) (v_int) (nomark _)))))
end
end Pw
set_option Elab.async false
set_option linter.all false
set_option maxRecDepth 100000
set_option maxHeartbeats 4000000
namespace Pw
open PySem L2
seal PE PT PW PA PS PSs PG PGs PI PIf PO
section
variable {P : Program} {w : World} {K : PySem.W.Frag} {mg : Str -> Option Value} {base : Heap} {f : Addr} {fd : FuncData}
theorem abs_gd {k : Nat} {a : Fq} (h : Gd k a) : Gd k (absI a.1, a.2) := by
  have hab : (absI a.1).natAbs = a.1.natAbs := by unfold absI; split <;> omega
  exact ⟨⟨h.1.1, (gd_abs a.1 a.2).trans h.1.2⟩, by show (absI a.1).natAbs < _; rw [hab]; exact h.2.1, h.2.2⟩
theorem neg_gd {k : Nat} {a : Fq} (h : Gd k a) : Gd k (0 - a.1, a.2) :=
  ⟨⟨h.1.1, by show gd (0 - a.1) a.2 = 1; rw [Int.zero_sub, gd_neg_l]; exact h.1.2⟩, neg_fb h.2⟩
def b_l_step_5 : Sv := vRet (vVar 2)
def b_l_step_4s : Sv := vIfS (vCmp wIsN (vOp wIx (vVar 0) (vC (.int 3))) (vC .non)) (vRet (vTup [vOp wSub (vC (.int 0)) (vFn wAbs [vOp wIx (vVar 2) (vC (.int 0))]), vOp wIx (vVar 2) (vC (.int 1))])) (vNext)
def b_l_step_4 : Sv := vSeq b_l_step_4s b_l_step_5
def b_l_step_3s : Sv := vIfS (vCmp wIsN (vOp wIx (vVar 0) (vC (.int 2))) (vC .non)) (vRet (vTup [vFn wAbs [vOp wIx (vVar 2) (vC (.int 0))], vOp wIx (vVar 2) (vC (.int 1))])) (vNext)
def b_l_step_3 : Sv := vSeq b_l_step_3s b_l_step_4
def b_l_step_2s : Sv := vIfS (vAnd (vCmp wIsN (vOp wIx (vVar 0) (vC (.int 2))) (vC .non)) (vCmp wIsN (vOp wIx (vVar 0) (vC (.int 3))) (vC .non))) (vRet (vTup [vC (.int 0), vC (.int 1)])) (vNext)
def b_l_step_2 : Sv := vSeq b_l_step_2s b_l_step_3
def b_l_step_1s : Sv := vIfS (vCmp wEq (vUn (wModC 16) (vVar 1)) (vC (.int 1))) (vRet (vVar 2)) (vNext)
def b_l_step_1 : Sv := vSeq b_l_step_1s b_l_step_2
def b_l_step_0s : Sv := vSet 2 (vCall C_l_fraction [vUn (wDivC 16) (vVar 1)])
def b_l_step : Sv :=
  vSeq b_l_step_0s b_l_step_1
def C_l_step : Ct := fun ts P => ∃ (u : Un) (m : Int), ts = [encU u, .int m] /\ 0 <= m /\ ∀ a, Gd 31 a -> P (.ok (.va (encF a)))
theorem sc_l_step : FnScope ["_law_unknown_here", "_law_number", "_law_part"] ["_law_unknown_here", "_law_number"] (defScope s_l_step) := ⟨rfl, rfl, rfl, by decide +kernel, rfl, by decide +kernel, by decide +kernel⟩
theorem lk_l_step__law_unknown_here : Lk s_l_step "_law_unknown_here" .local := by decide +kernel
theorem lk_l_step__law_number : Lk s_l_step "_law_number" .local := by decide +kernel
theorem lk_l_step__law_part : Lk s_l_step "_law_part" .local := by decide +kernel
theorem lk_l_step__law_fraction : Lk s_l_step "_law_fraction" .globalImplicit := by decide +kernel
theorem lk_l_step_abs : Lk s_l_step "abs" .globalImplicit := by decide +kernel
theorem len_l_step : ∀ ts Q, C_l_step ts Q -> ts.length = 2 := fun ts Q ⟨_, _, e, _⟩ => by rw [e]; rfl
theorem nice_l_step : ∀ ts Q, C_l_step ts Q -> bodyC 3 b_l_step ts Q := by
  rintro _ Q ⟨⟨lab, w, lo, hi⟩, m, rfl, hm, q⟩
  refine ⟨m / 16, rfl, by omega, fun a ga => ?_⟩
  have q0 := q (0, 1) (gd_one (by decide))
  have q1 := q a ga
  have q2 := q _ (abs_gd ga)
  have q3 := q _ (neg_gd (abs_gd ga))
  refine ite_go (fun _ => q1) fun _ => ?_
  cases lo with
  | none =>
    cases hi with
    | none => exact q1
    | some b => exact q3
  | some b =>
    cases hi with
    | none => exact q2
    | some b => exact q0
theorem ok_l_step (A : AllD K mg) (B : Blt mg) : FnOk P w K mg base (CXF P w) 3 A.f_l_step A.d_l_step ["_law_unknown_here", "_law_number"] (spV K C_l_step) :=
  fn_V A.D_l_step.F sc_l_step b_l_step len_l_step nice_l_step fun cdv A_ outer s H E hr => have hu := hr.units
  vs_cons (vs_set (i := 2) sc_l_step.nd rfl (Or.inl lk_l_step__law_part) (v_call rfl (ok_l_fraction A B) (hr.mono (by decide)) lk_l_step__law_fraction A.D_l_fraction.m A.D_l_fraction.F.kp A.D_l_fraction.b passes_fn (va_BinOp (v_divC (v_var (i := 1) rfl (Or.inl lk_l_step__law_number))) va_nil)))
  (vs_cons (vs_if (vt_cmp (o_eq rfl hu) (v_modC (v_var (i := 1) rfl (Or.inl lk_l_step__law_number))) (v_int) (nomark _)) (vs_one (vs_ret (v_var (i := 2) rfl (Or.inl lk_l_step__law_part)))) (vs_nil))
  (vs_cons (vs_if (PW.pt (vw_and (vt_cmp o_isN (v_ix (o_ix rfl) (v_var (i := 0) rfl (Or.inl lk_l_step__law_unknown_here)) (v_int) (fun _ _ => rfl)) (v_non) (nomark _)) (vw_and1 (vt_cmp o_isN (v_ix (o_ix rfl) (v_var (i := 0) rfl (Or.inl lk_l_step__law_unknown_here)) (v_int) (fun _ _ => rfl)) (v_non) (nomark _))))) (vs_one (vs_ret (v_tup (va_Constant (v_int) (va_Constant (v_int) va_nil))))) (vs_nil))
  (vs_cons (vs_if (vt_cmp o_isN (v_ix (o_ix rfl) (v_var (i := 0) rfl (Or.inl lk_l_step__law_unknown_here)) (v_int) (fun _ _ => rfl)) (v_non) (nomark _)) (vs_one (vs_ret (v_tup (va_Call (v_fnB f_abs lk_l_step_abs B.abs bt_abs (va_Subscript (v_ix (o_ix rfl) (v_var (i := 2) rfl (Or.inl lk_l_step__law_part)) (v_int) (fun _ _ => rfl)) va_nil)) (va_Subscript (v_ix (o_ix rfl) (v_var (i := 2) rfl (Or.inl lk_l_step__law_part)) (v_int) (fun _ _ => rfl)) va_nil))))) (vs_nil))
  (vs_cons (vs_if (vt_cmp o_isN (v_ix (o_ix rfl) (v_var (i := 0) rfl (Or.inl lk_l_step__law_unknown_here)) (v_int) (fun _ _ => rfl)) (v_non) (nomark _)) (vs_one (vs_ret (v_tup (va_BinOp (v_op o_sub (v_int) (v_fnB f_abs lk_l_step_abs B.abs bt_abs (va_Subscript (v_ix (o_ix rfl) (v_var (i := 2) rfl (Or.inl lk_l_step__law_part)) (v_int) (fun _ _ => rfl)) va_nil))) (va_Subscript (v_ix (o_ix rfl) (v_var (i := 2) rfl (Or.inl lk_l_step__law_part)) (v_int) (fun _ _ => rfl)) va_nil))))) (vs_nil))
  (vs_one (vs_ret (v_var (i := 2) rfl (Or.inl lk_l_step__law_part))))))))
def b_l_row_5 : Sv := vRet (vTup [vOp wIx (vLst [vC (.str "flour"), vC (.str "r(a)"), vC (.str "r(b)"), vC (.str "s(a, b)")]) (vVar 1), vVar 3, vVar 6, vCall C_l_fraction [vUn (wDivC 32) (vVar 4)]])
def b_l_row_4s : Sv := vIfS (vOr (vCmp wEq (vUn (wModC 8) (vVar 4)) (vC (.int 1))) (vCmp wEq (vVar 5) (vC (.int 0)))) (vSet 6 (vOp wIx (vLst [vC (.str "<="), vC (.str ">="), vC (.str "=")]) (vUn (wModC 3) (vUn (wDivC 8) (vVar 4))))) (vNext)
def b_l_row_4 : Sv := vSeq b_l_row_4s b_l_row_5
def b_l_row_3s : Sv := vSet 6 (vOp wIx (vLst [vC (.str "="), vC (.str ">="), vC (.str "<=")]) (vOp wAdd (vFn wInt [vOp wGt (vVar 5) (vC (.int 0))]) (vOp wMul (vC (.int 2)) (vFn wInt [vOp wLt (vVar 5) (vC (.int 0))]))))
def b_l_row_3 : Sv := vSeq b_l_row_3s b_l_row_4
def b_l_row_2s : Sv := vSet 5 (vOp wIx (vCall C_l_worth [vTup [vC (.int 0), vC (.int 1)], vVar 3, vVar 2]) (vC (.int 0)))
def b_l_row_2 : Sv := vSeq b_l_row_2s b_l_row_3
def b_l_row_1s : Sv := vSet 4 (vCall C_l_mixed [vVar 0, vOp wAdd (vC (.int 20)) (vVar 1)])
def b_l_row_1 : Sv := vSeq b_l_row_1s b_l_row_2
def b_l_row_0s : Sv := vSet 3 (vCall C_l_pairs [vVar 0, vFn wLen [vVar 2]])
def b_l_row : Sv :=
  vSeq b_l_row_0s b_l_row_1
def C_l_row : Ct := fun ts P => ∃ (c : Int) (k n : Nat) (vals : List Fq), ts = [.int c, .int k, .tup (encVs vals)] /\ k < 4 /\ n <= 4 /\ vals.length = n /\ (∀ x ∈ vals, Gd 200 x) /\ ∀ r : Rw, RwOk n r -> Gd 31 r.bd -> P (.ok (.va (encR r)))
theorem sc_l_row : FnScope ["_law_cell", "_law_k", "_law_way", "_law_pairs_here", "_law_number", "_law_off", "_law_mark"] ["_law_cell", "_law_k", "_law_way"] (defScope s_l_row) := ⟨rfl, rfl, rfl, by decide +kernel, rfl, by decide +kernel, by decide +kernel⟩
theorem lk_l_row__law_cell : Lk s_l_row "_law_cell" .local := by decide +kernel
theorem lk_l_row__law_k : Lk s_l_row "_law_k" .local := by decide +kernel
theorem lk_l_row__law_way : Lk s_l_row "_law_way" .local := by decide +kernel
theorem lk_l_row__law_pairs_here : Lk s_l_row "_law_pairs_here" .local := by decide +kernel
theorem lk_l_row__law_number : Lk s_l_row "_law_number" .local := by decide +kernel
theorem lk_l_row__law_off : Lk s_l_row "_law_off" .local := by decide +kernel
theorem lk_l_row__law_mark : Lk s_l_row "_law_mark" .local := by decide +kernel
theorem lk_l_row__law_fraction : Lk s_l_row "_law_fraction" .globalImplicit := by decide +kernel
theorem lk_l_row__law_mixed : Lk s_l_row "_law_mixed" .globalImplicit := by decide +kernel
theorem lk_l_row__law_pairs : Lk s_l_row "_law_pairs" .globalImplicit := by decide +kernel
theorem lk_l_row__law_worth : Lk s_l_row "_law_worth" .globalImplicit := by decide +kernel
theorem lk_l_row_int : Lk s_l_row "int" .globalImplicit := by decide +kernel
theorem lk_l_row_len : Lk s_l_row "len" .globalImplicit := by decide +kernel
theorem len_l_row : ∀ ts Q, C_l_row ts Q -> ts.length = 3 := fun ts Q ⟨_, _, _, _, e, _⟩ => by rw [e]; rfl
theorem mark_of {t : Tv} (ht : t ∈ [Tv.str "<=", .str ">=", .str "="]) : ∃ z, t = .str z /\ isMark z := by
  simp only [List.mem_cons, List.not_mem_nil, or_false] at ht
  rcases ht with rfl | rfl | rfl
  · exact ⟨_, rfl, .inl rfl⟩
  · exact ⟨_, rfl, .inr (.inl rfl)⟩
  · exact ⟨_, rfl, .inr (.inr rfl)⟩
theorem mark_of' {t : Tv} (ht : t ∈ [Tv.str "=", .str ">=", .str "<="]) : ∃ z, t = .str z /\ isMark z := by
  simp only [List.mem_cons, List.not_mem_nil, or_false] at ht
  rcases ht with rfl | rfl | rfl
  · exact ⟨_, rfl, .inr (.inr rfl)⟩
  · exact ⟨_, rfl, .inr (.inl rfl)⟩
  · exact ⟨_, rfl, .inl rfl⟩
theorem nice_l_row : ∀ ts Q, C_l_row ts Q -> bodyC 7 b_l_row ts Q := by
  rintro _ Q ⟨c, k, n, vals, rfl, hk, n4, hv, gv, q⟩
  have hlen : (encVs vals).length = n := by unfold encVs; rw [List.length_map]; exact hv
  refine ⟨c, n, by rw [hlen], n4, fun ps hps hs => ⟨c, 20 + k, rfl, ⟨by omega, by omega⟩, fun m m0 m1 => ?_⟩⟩
  have hpl := hps.l
  have hit : ∀ m ∈ ps, Gd 31 m.2 /\ 0 <= m.1 /\ m.1 < vals.length := by rw [hv]; exact hps.it
  refine ⟨(0, 1), ps, vals, _, 31, 200, 1, rfl, .inl rfl, gv, hit, (gd_one (by decide)).2, by decide, by omega, ?_⟩
  have b1 : ∀ b : Bool, (b2I b).natAbs <= 1 /\ 0 <= b2I b := fun b => by cases b <;> decide
  have hx : b2I (decide (0 < (lwF vals (0, 1) ps).1)) + 2 * b2I (decide ((lwF vals (0, 1) ps).1 < 0)) < 3 /\ 0 <= b2I (decide (0 < (lwF vals (0, 1) ps).1)) + 2 * b2I (decide ((lwF vals (0, 1) ps).1 < 0)) := by
    by_cases z : 0 < (lwF vals (0, 1) ps).1
    · rw [decide_eq_true z, decide_eq_false (by omega)]; decide
    · rw [decide_eq_false z]
      have := b1 (decide ((lwF vals (0, 1) ps).1 < 0))
      have e : b2I false = 0 := rfl
      omega
  refine ⟨⟨small_BM (by decide), small_BM (by have := b1 (decide ((lwF vals (0, 1) ps).1 < 0)); omega)⟩, ix_mem (l := [.str "=", .str ">=", .str "<="]) hx.2 hx.1 fun t ht => ?_⟩
  obtain ⟨mark, rfl, hm⟩ := mark_of' ht
  suffices key : ∀ T : Sv, (∀ mark, isMark mark -> T [.va (.int c), .va (.int k), .va (.tup (encVs vals)), .va (encP ps), .va (.int m), .va (.int (lwF vals (0, 1) ps).1), .va (.str mark)] (bodyK Q)) -> vSeq b_l_row_4s T [.va (.int c), .va (.int k), .va (.tup (encVs vals)), .va (encP ps), .va (.int m), .va (.int (lwF vals (0, 1) ps).1), .va (.str mark)] (bodyK Q) by
    refine key b_l_row_5 fun mark hm => ?_
    unfold b_l_row_5
    refine ix_mem (l := [.str "flour", .str "r(a)", .str "r(b)", .str "s(a, b)"]) (Int.natCast_nonneg k) (by show (k : Int) < 4; omega) fun t ht => ?_
    obtain ⟨nm, rfl⟩ : ∃ z, t = .str z := by
      simp only [List.mem_cons, List.not_mem_nil, or_false] at ht
      rcases ht with rfl | rfl | rfl | rfl <;> exact ⟨_, rfl⟩
    exact ⟨m / 32, rfl, by omega, fun a ga => q ⟨nm, ps, mark, a⟩ ⟨hps, hm, ga.mono (by decide)⟩ ga⟩
  intro T hT
  have other : (vSet 6 (vOp wIx (vLst [vC (.str "<="), vC (.str ">="), vC (.str "=")]) (vUn (wModC 3) (vUn (wDivC 8) (vVar 4))))) [.va (.int c), .va (.int k), .va (.tup (encVs vals)), .va (encP ps), .va (.int m), .va (.int (lwF vals (0, 1) ps).1), .va (.str mark)] (seqK T (bodyK Q)) := by
    refine ix_mem (l := [.str "<=", .str ">=", .str "="]) (by omega) (by show m / 8 % 3 < 3; omega) fun t ht => ?_
    obtain ⟨mark, rfl, hm⟩ := mark_of ht
    exact hT mark hm
  exact ite_go (fun _ => other) fun _ => ite_go (fun _ => other) fun _ => hT mark hm
theorem ok_l_row (A : AllD K mg) (B : Blt mg) : FnOk P w K mg base (CXF P w) 4 A.f_l_row A.d_l_row ["_law_cell", "_law_k", "_law_way"] (spV K C_l_row) :=
  fn_V A.D_l_row.F sc_l_row b_l_row len_l_row nice_l_row fun cdv A_ outer s H E hr => have hu := hr.units
  vs_cons (vs_set (i := 3) sc_l_row.nd rfl (Or.inl lk_l_row__law_pairs_here) (v_call rfl (ok_l_pairs A B) (hr.mono (by decide)) lk_l_row__law_pairs A.D_l_pairs.m A.D_l_pairs.F.kp A.D_l_pairs.b passes_fn (va_Name (v_var (i := 0) rfl (Or.inl lk_l_row__law_cell)) (va_Call (v_fnB (f_len rfl) lk_l_row_len B.len bt_len (va_Name (v_var (i := 2) rfl (Or.inl lk_l_row__law_way)) va_nil)) va_nil))))
  (vs_cons (vs_set (i := 4) sc_l_row.nd rfl (Or.inl lk_l_row__law_number) (v_call rfl (ok_l_mixed A B) (hr.mono (by decide)) lk_l_row__law_mixed A.D_l_mixed.m A.D_l_mixed.F.kp A.D_l_mixed.b passes_fn (va_Name (v_var (i := 0) rfl (Or.inl lk_l_row__law_cell)) (va_BinOp (v_op (o_add rfl) (v_int) (v_var (i := 1) rfl (Or.inl lk_l_row__law_k))) va_nil))))
  (vs_cons (vs_set (i := 5) sc_l_row.nd rfl (Or.inl lk_l_row__law_off) (v_ix (o_ix rfl) (v_call rfl (ok_l_worth A B) (hr.mono (by decide)) lk_l_row__law_worth A.D_l_worth.m A.D_l_worth.F.kp A.D_l_worth.b passes_fn (va_Tuple (v_tup (va_Constant (v_int) (va_Constant (v_int) va_nil))) (va_Name (v_var (i := 3) rfl (Or.inl lk_l_row__law_pairs_here)) (va_Name (v_var (i := 2) rfl (Or.inl lk_l_row__law_way)) va_nil)))) (v_int) (fun _ _ => rfl)))
  (vs_cons (vs_set (i := 6) sc_l_row.nd rfl (Or.inl lk_l_row__law_mark) (v_ix (o_ix rfl) (v_lst (va_Constant (v_str) (va_Constant (v_str) (va_Constant (v_str) va_nil)))) (v_op (o_add rfl) (v_fnT f_int lk_l_row_int B.int bt_int (va_Compare (v_cmp o_gt (v_var (i := 5) rfl (Or.inl lk_l_row__law_off)) (v_int) (nomark _)) va_nil)) (v_op o_mul (v_int) (v_fnT f_int lk_l_row_int B.int bt_int (va_Compare (v_cmp o_lt (v_var (i := 5) rfl (Or.inl lk_l_row__law_off)) (v_int) (nomark _)) va_nil)))) (fun _ _ => rfl)))
  (vs_cons (vs_if (PW.pt (vw_or (vt_cmp (o_eq rfl hu) (v_modC (v_var (i := 4) rfl (Or.inl lk_l_row__law_number))) (v_int) (nomark _)) (vw_or1 (vt_cmp (o_eq rfl hu) (v_var (i := 5) rfl (Or.inl lk_l_row__law_off)) (v_int) (nomark _))))) (vs_one (vs_set (i := 6) sc_l_row.nd rfl (Or.inl lk_l_row__law_mark) (v_ix (o_ix rfl) (v_lst (va_Constant (v_str) (va_Constant (v_str) (va_Constant (v_str) va_nil)))) (v_modC (v_divC (v_var (i := 4) rfl (Or.inl lk_l_row__law_number)))) (fun _ _ => rfl)))) (vs_nil))
  (vs_one (vs_ret (v_tup (va_Subscript (v_ix (o_ix rfl) (v_lst (va_Constant (v_str) (va_Constant (v_str) (va_Constant (v_str) (va_Constant (v_str) va_nil))))) (v_var (i := 1) rfl (Or.inl lk_l_row__law_k)) (fun _ _ => rfl)) (va_Name (v_var (i := 3) rfl (Or.inl lk_l_row__law_pairs_here)) (va_Name (v_var (i := 6) rfl (Or.inl lk_l_row__law_mark)) (va_Call (v_call rfl (ok_l_fraction A B) (hr.mono (by decide)) lk_l_row__law_fraction A.D_l_fraction.m A.D_l_fraction.F.kp A.D_l_fraction.b passes_fn (va_BinOp (v_divC (v_var (i := 4) rfl (Or.inl lk_l_row__law_number))) va_nil)) va_nil)))))))))))
def b_l_price_2 : Sv := vRet (vTup [vOp wIx (vLst [vFn wAbs [vOp wIx (vVar 2) (vC (.int 0))], vOp wSub (vC (.int 0)) (vFn wAbs [vOp wIx (vVar 2) (vC (.int 0))])]) (vFn wInt [vOp wEq (vOp wIx (vVar 0) (vC (.int 2))) (vC (.str "<="))]), vOp wIx (vVar 2) (vC (.int 1))])
def b_l_price_1s : Sv := vIfS (vOr (vCmp wEq (vUn (wModC 12) (vVar 1)) (vC (.int 1))) (vCmp wEq (vOp wIx (vVar 0) (vC (.int 2))) (vC (.str "=")))) (vRet (vVar 2)) (vNext)
def b_l_price_1 : Sv := vSeq b_l_price_1s b_l_price_2
def b_l_price_0s : Sv := vSet 2 (vCall C_l_fraction [vUn (wDivC 12) (vVar 1)])
def b_l_price : Sv :=
  vSeq b_l_price_0s b_l_price_1
def C_l_price : Ct := fun ts P => ∃ (r : Rw) (m : Int), ts = [encR r, .int m] /\ 0 <= m /\ ∀ a, Gd 31 a -> P (.ok (.va (encF a)))
theorem sc_l_price : FnScope ["_law_row_here", "_law_number", "_law_part"] ["_law_row_here", "_law_number"] (defScope s_l_price) := ⟨rfl, rfl, rfl, by decide +kernel, rfl, by decide +kernel, by decide +kernel⟩
theorem lk_l_price__law_row_here : Lk s_l_price "_law_row_here" .local := by decide +kernel
theorem lk_l_price__law_number : Lk s_l_price "_law_number" .local := by decide +kernel
theorem lk_l_price__law_part : Lk s_l_price "_law_part" .local := by decide +kernel
theorem lk_l_price__law_fraction : Lk s_l_price "_law_fraction" .globalImplicit := by decide +kernel
theorem lk_l_price_abs : Lk s_l_price "abs" .globalImplicit := by decide +kernel
theorem lk_l_price_int : Lk s_l_price "int" .globalImplicit := by decide +kernel
theorem len_l_price : ∀ ts Q, C_l_price ts Q -> ts.length = 2 := fun ts Q ⟨_, _, e, _⟩ => by rw [e]; rfl
theorem nice_l_price : ∀ ts Q, C_l_price ts Q -> bodyC 3 b_l_price ts Q := by
  rintro _ Q ⟨r, m, rfl, hm, q⟩
  refine ⟨m / 12, rfl, by omega, fun a ga => ?_⟩
  have q1 := q a ga
  suffices key : ∀ T : Sv, T [.va (encR r), .va (.int m), .va (encF a)] (bodyK Q) -> vSeq b_l_price_1s T [.va (encR r), .va (.int m), .va (encF a)] (bodyK Q) by
    refine key b_l_price_2 ?_
    unfold b_l_price_2
    have b1 : ∀ b : Bool, b2I b < 2 /\ 0 <= b2I b := fun b => by cases b <;> decide
    refine ix_mem (l := [.int (absI a.1), .int (0 - absI a.1)]) (b1 _).2 (b1 _).1 fun t ht => ?_
    simp only [List.mem_cons, List.not_mem_nil, or_false] at ht
    rcases ht with rfl | rfl
    · exact q _ (abs_gd ga)
    · exact q _ (neg_gd (abs_gd ga))
  intro T hT
  exact ite_go (fun _ => q1) fun _ => ite_go (fun _ => q1) fun _ => hT
theorem ok_l_price (A : AllD K mg) (B : Blt mg) : FnOk P w K mg base (CXF P w) 3 A.f_l_price A.d_l_price ["_law_row_here", "_law_number"] (spV K C_l_price) :=
  fn_V A.D_l_price.F sc_l_price b_l_price len_l_price nice_l_price fun cdv A_ outer s H E hr => have hu := hr.units
  vs_cons (vs_set (i := 2) sc_l_price.nd rfl (Or.inl lk_l_price__law_part) (v_call rfl (ok_l_fraction A B) (hr.mono (by decide)) lk_l_price__law_fraction A.D_l_fraction.m A.D_l_fraction.F.kp A.D_l_fraction.b passes_fn (va_BinOp (v_divC (v_var (i := 1) rfl (Or.inl lk_l_price__law_number))) va_nil)))
  (vs_cons (vs_if (PW.pt (vw_or (vt_cmp (o_eq rfl hu) (v_modC (v_var (i := 1) rfl (Or.inl lk_l_price__law_number))) (v_int) (nomark _)) (vw_or1 (vt_cmp (o_eq rfl hu) (v_ix (o_ix rfl) (v_var (i := 0) rfl (Or.inl lk_l_price__law_row_here)) (v_int) (fun _ _ => rfl)) (v_str) (nomark _))))) (vs_one (vs_ret (v_var (i := 2) rfl (Or.inl lk_l_price__law_part)))) (vs_nil))
  (vs_one (vs_ret (v_tup (va_Subscript (v_ix (o_ix rfl) (v_lst (va_Call (v_fnB f_abs lk_l_price_abs B.abs bt_abs (va_Subscript (v_ix (o_ix rfl) (v_var (i := 2) rfl (Or.inl lk_l_price__law_part)) (v_int) (fun _ _ => rfl)) va_nil)) (va_BinOp (v_op o_sub (v_int) (v_fnB f_abs lk_l_price_abs B.abs bt_abs (va_Subscript (v_ix (o_ix rfl) (v_var (i := 2) rfl (Or.inl lk_l_price__law_part)) (v_int) (fun _ _ => rfl)) va_nil))) va_nil))) (v_fnT f_int lk_l_price_int B.int bt_int (va_Compare (v_cmp (o_eq rfl hu) (v_ix (o_ix rfl) (v_var (i := 0) rfl (Or.inl lk_l_price__law_row_here)) (v_int) (fun _ _ => rfl)) (v_str) (nomark _)) va_nil)) (fun _ _ => rfl)) (va_Subscript (v_ix (o_ix rfl) (v_var (i := 2) rfl (Or.inl lk_l_price__law_part)) (v_int) (fun _ _ => rfl)) va_nil))))))
end
end Pw
set_option Elab.async false
set_option linter.all false
set_option maxRecDepth 100000
set_option maxHeartbeats 4000000
namespace Pw
open PySem L2
seal PE PT PW PA PS PSs PG PGs PI PIf PO
section
variable {P : Program} {w : World} {K : PySem.W.Frag} {mg : Str -> Option Value} {base : Heap} {f : Addr} {fd : FuncData}
def b_l_goal_3 : Sv := vRet (vTup [vVar 3, vVar 2, vCall C_l_fraction [vCall C_l_mixed [vVar 0, vC (.int 42)]]])
def b_l_goal_2s : Sv := vIfS (vCmp wEq (vUn (wModC 6) (vCall C_l_mixed [vVar 0, vC (.int 41)])) (vC (.int 1))) (vSet 3 (vOp wIx (vLst [vC (.str "least"), vC (.str "most")]) (vUn (wModC 2) (vUn (wDivC 6) (vCall C_l_mixed [vVar 0, vC (.int 41)]))))) (vNext)
def b_l_goal_2 : Sv := vSeq b_l_goal_2s b_l_goal_3
def b_l_goal_1s : Sv := vSet 3 (vOp wIx (vLst [vC (.str "least"), vC (.str "most")]) (vFn wInt [vOp wGt (vOp wIx (vCall C_l_worth [vTup [vC (.int 0), vC (.int 1)], vVar 2, vVar 1]) (vC (.int 0))) (vC (.int 0))]))
def b_l_goal_1 : Sv := vSeq b_l_goal_1s b_l_goal_2
def b_l_goal_0s : Sv := vSet 2 (vCall C_l_pairs [vCall C_l_mixed [vVar 0, vC (.int 40)], vFn wLen [vVar 1]])
def b_l_goal : Sv :=
  vSeq b_l_goal_0s b_l_goal_1
def C_l_goal : Ct := fun ts P => ∃ (c : Int) (n : Nat) (vals : List Fq), ts = [.int c, .tup (encVs vals)] /\ n <= 4 /\ vals.length = n /\ (∀ x ∈ vals, Gd 200 x) /\ ∀ way ps gc, isWay way -> PsOk n 31 ps -> PsS n ps -> Gd 31 gc -> P (.ok (.va (.tup [.str way, encP ps, encF gc])))
theorem sc_l_goal : FnScope ["_law_cell", "_law_way", "_law_pairs_here", "_law_word"] ["_law_cell", "_law_way"] (defScope s_l_goal) := ⟨rfl, rfl, rfl, by decide +kernel, rfl, by decide +kernel, by decide +kernel⟩
theorem lk_l_goal__law_cell : Lk s_l_goal "_law_cell" .local := by decide +kernel
theorem lk_l_goal__law_way : Lk s_l_goal "_law_way" .local := by decide +kernel
theorem lk_l_goal__law_pairs_here : Lk s_l_goal "_law_pairs_here" .local := by decide +kernel
theorem lk_l_goal__law_word : Lk s_l_goal "_law_word" .local := by decide +kernel
theorem lk_l_goal__law_fraction : Lk s_l_goal "_law_fraction" .globalImplicit := by decide +kernel
theorem lk_l_goal__law_mixed : Lk s_l_goal "_law_mixed" .globalImplicit := by decide +kernel
theorem lk_l_goal__law_pairs : Lk s_l_goal "_law_pairs" .globalImplicit := by decide +kernel
theorem lk_l_goal__law_worth : Lk s_l_goal "_law_worth" .globalImplicit := by decide +kernel
theorem lk_l_goal_int : Lk s_l_goal "int" .globalImplicit := by decide +kernel
theorem lk_l_goal_len : Lk s_l_goal "len" .globalImplicit := by decide +kernel
theorem len_l_goal : ∀ ts Q, C_l_goal ts Q -> ts.length = 2 := fun ts Q ⟨_, _, _, e, _⟩ => by rw [e]; rfl
theorem way_of {t : Tv} (ht : t ∈ [Tv.str "least", .str "most"]) : ∃ z, t = .str z /\ isWay z := by
  simp only [List.mem_cons, List.not_mem_nil, or_false] at ht
  rcases ht with rfl | rfl
  · exact ⟨_, rfl, .inl rfl⟩
  · exact ⟨_, rfl, .inr rfl⟩
theorem nice_l_goal : ∀ ts Q, C_l_goal ts Q -> bodyC 4 b_l_goal ts Q := by
  rintro _ Q ⟨c, n, vals, rfl, n4, hv, gv, q⟩
  have hlen : (encVs vals).length = n := by unfold encVs; rw [List.length_map]; exact hv
  have b1 : ∀ b : Bool, b2I b < 2 /\ 0 <= b2I b := fun b => by cases b <;> decide
  refine ⟨c, 40, rfl, ⟨by decide, by decide⟩, fun m m0 m1 => ⟨m, n, by rw [hlen], n4, fun ps hps hs => ?_⟩⟩
  have hpl := hps.l
  have hit : ∀ m ∈ ps, Gd 31 m.2 /\ 0 <= m.1 /\ m.1 < vals.length := by rw [hv]; exact hps.it
  refine ⟨(0, 1), ps, vals, _, 31, 200, 1, rfl, .inl rfl, gv, hit, (gd_one (by decide)).2, by decide, by omega, ix_mem (l := [.str "least", .str "most"]) (b1 _).2 (b1 _).1 fun t ht => ?_⟩
  obtain ⟨way, rfl, hw⟩ := way_of ht
  suffices key : ∀ T : Sv, (∀ way, isWay way -> T [.va (.int c), .va (.tup (encVs vals)), .va (encP ps), .va (.str way)] (bodyK Q)) -> vSeq b_l_goal_2s T [.va (.int c), .va (.tup (encVs vals)), .va (encP ps), .va (.str way)] (bodyK Q) by
    refine key b_l_goal_3 fun way hw => ?_
    unfold b_l_goal_3
    exact ⟨c, 42, rfl, ⟨by decide, by decide⟩, fun m5 m6 m7 => ⟨m5, rfl, m6, fun gc gg => q way ps gc hw hps hs gg⟩⟩
  intro T hT
  refine ⟨c, 41, rfl, ⟨by decide, by decide⟩, fun m2 m3 m4 => ite_go (fun _ => ?_) fun _ => hT way hw⟩
  refine ⟨c, 41, rfl, ⟨by decide, by decide⟩, fun m2 m3 m4 => ix_mem (l := [.str "least", .str "most"]) (by omega) (by show m2 / 6 % 2 < 2; omega) fun t ht => ?_⟩
  obtain ⟨way, rfl, hw⟩ := way_of ht
  exact hT way hw
theorem ok_l_goal (A : AllD K mg) (B : Blt mg) : FnOk P w K mg base (CXF P w) 4 A.f_l_goal A.d_l_goal ["_law_cell", "_law_way"] (spV K C_l_goal) :=
  fn_V A.D_l_goal.F sc_l_goal b_l_goal len_l_goal nice_l_goal fun cdv A_ outer s H E hr => have hu := hr.units
  vs_cons (vs_set (i := 2) sc_l_goal.nd rfl (Or.inl lk_l_goal__law_pairs_here) (v_call rfl (ok_l_pairs A B) (hr.mono (by decide)) lk_l_goal__law_pairs A.D_l_pairs.m A.D_l_pairs.F.kp A.D_l_pairs.b passes_fn (va_Call (v_call rfl (ok_l_mixed A B) (hr.mono (by decide)) lk_l_goal__law_mixed A.D_l_mixed.m A.D_l_mixed.F.kp A.D_l_mixed.b passes_fn (va_Name (v_var (i := 0) rfl (Or.inl lk_l_goal__law_cell)) (va_Constant (v_int) va_nil))) (va_Call (v_fnB (f_len rfl) lk_l_goal_len B.len bt_len (va_Name (v_var (i := 1) rfl (Or.inl lk_l_goal__law_way)) va_nil)) va_nil))))
  (vs_cons (vs_set (i := 3) sc_l_goal.nd rfl (Or.inl lk_l_goal__law_word) (v_ix (o_ix rfl) (v_lst (va_Constant (v_str) (va_Constant (v_str) va_nil))) (v_fnT f_int lk_l_goal_int B.int bt_int (va_Compare (v_cmp o_gt (v_ix (o_ix rfl) (v_call rfl (ok_l_worth A B) (hr.mono (by decide)) lk_l_goal__law_worth A.D_l_worth.m A.D_l_worth.F.kp A.D_l_worth.b passes_fn (va_Tuple (v_tup (va_Constant (v_int) (va_Constant (v_int) va_nil))) (va_Name (v_var (i := 2) rfl (Or.inl lk_l_goal__law_pairs_here)) (va_Name (v_var (i := 1) rfl (Or.inl lk_l_goal__law_way)) va_nil)))) (v_int) (fun _ _ => rfl)) (v_int) (nomark _)) va_nil)) (fun _ _ => rfl)))
  (vs_cons (vs_if (vt_cmp (o_eq rfl hu) (v_modC (v_call rfl (ok_l_mixed A B) (hr.mono (by decide)) lk_l_goal__law_mixed A.D_l_mixed.m A.D_l_mixed.F.kp A.D_l_mixed.b passes_fn (va_Name (v_var (i := 0) rfl (Or.inl lk_l_goal__law_cell)) (va_Constant (v_int) va_nil)))) (v_int) (nomark _)) (vs_one (vs_set (i := 3) sc_l_goal.nd rfl (Or.inl lk_l_goal__law_word) (v_ix (o_ix rfl) (v_lst (va_Constant (v_str) (va_Constant (v_str) va_nil))) (v_modC (v_divC (v_call rfl (ok_l_mixed A B) (hr.mono (by decide)) lk_l_goal__law_mixed A.D_l_mixed.m A.D_l_mixed.F.kp A.D_l_mixed.b passes_fn (va_Name (v_var (i := 0) rfl (Or.inl lk_l_goal__law_cell)) (va_Constant (v_int) va_nil))))) (fun _ _ => rfl)))) (vs_nil))
  (vs_one (vs_ret (v_tup (va_Name (v_var (i := 3) rfl (Or.inl lk_l_goal__law_word)) (va_Name (v_var (i := 2) rfl (Or.inl lk_l_goal__law_pairs_here)) (va_Call (v_call rfl (ok_l_fraction A B) (hr.mono (by decide)) lk_l_goal__law_fraction A.D_l_fraction.m A.D_l_fraction.F.kp A.D_l_fraction.b passes_fn (va_Call (v_call rfl (ok_l_mixed A B) (hr.mono (by decide)) lk_l_goal__law_mixed A.D_l_mixed.m A.D_l_mixed.F.kp A.D_l_mixed.b passes_fn (va_Name (v_var (i := 0) rfl (Or.inl lk_l_goal__law_cell)) (va_Constant (v_int) va_nil))) va_nil)) va_nil))))))))
def b_l_floor_good_3 : Sv := vRet (vCall C_l_same [vVar 4, vVar 3])
def b_l_floor_good_2s : Sv := vIfS (vCmp wIs (vVar 3) (vC .non)) (vRet (vOp wIs (vVar 4) (vC .non))) (vNext)
def b_l_floor_good_2 : Sv := vSeq b_l_floor_good_2s b_l_floor_good_3
def b_l_floor_good_1s : Sv := vSet 4 (vCall C_floor [vVar 0, vVar 1, vVar 2])
def b_l_floor_good_1 : Sv := vSeq b_l_floor_good_1s b_l_floor_good_2
def b_l_floor_good_0s : Sv := vSet 3 (vCall C_l_floor [vVar 0, vVar 1, vVar 2])
def b_l_floor_good : Sv :=
  vSeq b_l_floor_good_0s b_l_floor_good_1
def C_l_floor_good : Ct := fun ts P => ∃ (n : Nat) (p : Pln) (ps : Pq) (xs : List Fq), ts = [encPl p, encP ps, .tup (encVs xs)] /\ PlOk n p /\ (∀ r ∈ p.rs, Gd 31 r.bd) /\ PsS n ps /\ (∀ m ∈ ps, Gd 33 m.2) /\ xs.length = p.rs.length /\ (∀ x ∈ xs, Gd 31 x) /\ P (.ok (.va (.bl true)))
theorem sc_l_floor_good : FnScope ["_law_plan", "_law_pairs_here", "_law_prices", "_law_due", "_law_found"] ["_law_plan", "_law_pairs_here", "_law_prices"] (defScope s_l_floor_good) := ⟨rfl, rfl, rfl, by decide +kernel, rfl, by decide +kernel, by decide +kernel⟩
theorem lk_l_floor_good__law_plan : Lk s_l_floor_good "_law_plan" .local := by decide +kernel
theorem lk_l_floor_good__law_pairs_here : Lk s_l_floor_good "_law_pairs_here" .local := by decide +kernel
theorem lk_l_floor_good__law_prices : Lk s_l_floor_good "_law_prices" .local := by decide +kernel
theorem lk_l_floor_good__law_due : Lk s_l_floor_good "_law_due" .local := by decide +kernel
theorem lk_l_floor_good__law_found : Lk s_l_floor_good "_law_found" .local := by decide +kernel
theorem lk_l_floor_good__law_floor : Lk s_l_floor_good "_law_floor" .globalImplicit := by decide +kernel
theorem lk_l_floor_good__law_same : Lk s_l_floor_good "_law_same" .globalImplicit := by decide +kernel
theorem lk_l_floor_good_floor : Lk s_l_floor_good "floor" .globalImplicit := by decide +kernel
theorem len_l_floor_good : ∀ ts Q, C_l_floor_good ts Q -> ts.length = 3 := fun ts Q ⟨_, _, _, _, e, _⟩ => by rw [e]; rfl
theorem nice_l_floor_good : ∀ ts Q, C_l_floor_good ts Q -> bodyC 5 b_l_floor_good ts Q := by
  rintro _ Q ⟨n, p, ps, xs, rfl, hp, hb, hs, gs, hl, gx, q⟩
  refine ⟨n, p, ps, xs, rfl, hp, hb, hs, gs, hl, gx, fun o ho eo => ⟨n, p, ps, xs, rfl, hp, hb, hs, gs, hl, gx, fun o2 go2 eo2 => ?_⟩⟩
  rw [← eo2] at eo
  cases o with
  | none =>
    cases o2 with
    | none => exact q
    | some b => cases eo
  | some a =>
    cases o2 with
    | none => cases eo
    | some b =>
      obtain ⟨fa, pa⟩ := ho a rfl
      have gb := go2 b rfl
      have e : qv a = qv b := Option.some.inj eo
      exact ⟨b, a, 7000, 7000, rfl, gb, fa, pa, by decide, by decide, e.symm, q⟩
theorem ok_l_floor_good (A : AllD K mg) (B : Blt mg) : FnOk P w K mg base (CXF P w) 7 A.f_l_floor_good A.d_l_floor_good ["_law_plan", "_law_pairs_here", "_law_prices"] (spV K C_l_floor_good) :=
  fn_V A.D_l_floor_good.F sc_l_floor_good b_l_floor_good len_l_floor_good nice_l_floor_good fun cdv A_ outer s H E hr => have hu := hr.units
  vs_cons (vs_set (i := 3) sc_l_floor_good.nd rfl (Or.inl lk_l_floor_good__law_due) (v_call rfl (ok_l_floor A B) (hr.mono (by decide)) lk_l_floor_good__law_floor A.D_l_floor.m A.D_l_floor.F.kp A.D_l_floor.b passes_fn (va_Name (v_var (i := 0) rfl (Or.inl lk_l_floor_good__law_plan)) (va_Name (v_var (i := 1) rfl (Or.inl lk_l_floor_good__law_pairs_here)) (va_Name (v_var (i := 2) rfl (Or.inl lk_l_floor_good__law_prices)) va_nil)))))
  (vs_cons (vs_set (i := 4) sc_l_floor_good.nd rfl (Or.inl lk_l_floor_good__law_found) (v_call rfl (ok_floor A B) (hr.mono (by decide)) lk_l_floor_good_floor A.D_floor.m A.D_floor.F.kp A.D_floor.b passes_fn (va_Name (v_var (i := 0) rfl (Or.inl lk_l_floor_good__law_plan)) (va_Name (v_var (i := 1) rfl (Or.inl lk_l_floor_good__law_pairs_here)) (va_Name (v_var (i := 2) rfl (Or.inl lk_l_floor_good__law_prices)) va_nil)))))
  (vs_cons (vs_if (vt_cmp o_is (v_var (i := 3) rfl (Or.inl lk_l_floor_good__law_due)) (v_non) (nomark _)) (vs_one (vs_ret (v_cmp o_is (v_var (i := 4) rfl (Or.inl lk_l_floor_good__law_found)) (v_non) (nomark _)))) (vs_nil))
  (vs_one (vs_ret (v_call rfl (ok_l_same A B) (hr.mono (by decide)) lk_l_floor_good__law_same A.D_l_same.m A.D_l_same.F.kp A.D_l_same.b passes_fn (va_Name (v_var (i := 4) rfl (Or.inl lk_l_floor_good__law_found)) (va_Name (v_var (i := 3) rfl (Or.inl lk_l_floor_good__law_due)) va_nil)))))))
def b_l_alike_3 : Sv := vRet (vTup [vVar 3, vFn wTuple [vComp 1 [2] (vSeqI (vOp wIx (vVar 0) (vC (.int 1)))) (gV 0) (vYes) (vOp wAdd (vTup [vVar 1]) (vSlSN (vVar 0) (vC (.int 1))))], vOp wIx (vVar 0) (vC (.int 2))])
def b_l_alike_2s : Sv := vSet 3 (vFn wTuple [vComp 1 [2] (vSeqI (vOp wIx (vVar 0) (vC (.int 0)))) (gV 0) (vYes) (vOp wAdd (vTup [vVar 1]) (vSlSN (vVar 0) (vC (.int 1))))])
def b_l_alike_2 : Sv := vSeq b_l_alike_2s b_l_alike_3
def b_l_alike_1s : Sv := vSet 2 (vOp wIx (vLst [vC (.str "x"), vC (.str ""), vC (.str "r(a)")]) (vUn (wModC 3) (vUn (wDivC 4) (vVar 1))))
def b_l_alike_1 : Sv := vSeq b_l_alike_1s b_l_alike_2
def b_l_alike_0s : Sv := vIfS (vCmp wNe (vUn (wModC 4) (vVar 1)) (vC (.int 1))) (vRet (vVar 0)) (vNext)
def b_l_alike : Sv :=
  vSeq b_l_alike_0s b_l_alike_1
def C_l_alike : Ct := fun ts P => ∃ (n : Nat) (p : Pln) (m : Int), ts = [encPl p, .int m] /\ PlOk n p /\ 0 <= m /\ (∀ r ∈ p.rs, Gd 31 r.bd) /\ ∀ pp, PlOk n pp -> pp.gp = p.gp -> pp.rs.length = p.rs.length -> (∀ r ∈ pp.rs, Gd 31 r.bd) -> P (.ok (.va (encPl pp)))
theorem sc_l_alike : FnScope ["_law_plan", "_law_number", "_law_name", "_law_unknowns"] ["_law_plan", "_law_number"] (defScope s_l_alike) := ⟨rfl, rfl, rfl, by decide +kernel, rfl, by decide +kernel, by decide +kernel⟩
theorem lk_l_alike__law_plan : Lk s_l_alike "_law_plan" .local := by decide +kernel
theorem lk_l_alike__law_number : Lk s_l_alike "_law_number" .local := by decide +kernel
theorem lk_l_alike__law_name : Lk s_l_alike "_law_name" .cell := by decide +kernel
theorem lk_l_alike__law_unknowns : Lk s_l_alike "_law_unknowns" .local := by decide +kernel
theorem lk_l_alike_tuple : Lk s_l_alike "tuple" .globalImplicit := by decide +kernel
theorem len_l_alike : ∀ ts Q, C_l_alike ts Q -> ts.length = 2 := fun ts Q ⟨_, _, _, e, _⟩ => by rw [e]; rfl
theorem nice_l_alike : ∀ ts Q, C_l_alike ts Q -> bodyC 4 b_l_alike ts Q := by
  rintro _ Q ⟨n, p, m, rfl, hp, hm, hb, q⟩
  refine ite_go (fun _ => q p hp rfl rfl hb) fun _ => ?_
  refine ix_mem (l := [.str "x", .str "", .str "r(a)"]) (by omega) (by show m / 4 % 3 < 3; omega) fun t ht => ?_
  obtain ⟨z, rfl⟩ : ∃ z, t = .str z := by
    simp only [List.mem_cons, List.not_mem_nil, or_false] at ht
    rcases ht with rfl | rfl | rfl <;> exact ⟨_, rfl⟩
  have := hp.n4
  have := hp.ul
  have := hp.rl
  refine ⟨few_line (by rw [List.length_map]; omega), compW_enc encU (fun u => encU { u with lab := z }) (fun u hu Ky Kn k => ?_) ?_⟩
  · exact ⟨_, rfl, rfl, (show ¬ (1 = 0 /\ 4 = 4) by decide), (show 1 + 3 <= sizeLine by decide), rfl, k⟩
  refine ⟨few_line (by rw [List.length_map]; omega), compW_enc encR (fun r => encR { r with nm := z }) (fun r hr Ky Kn k => ?_) ?_⟩
  · exact ⟨_, rfl, rfl, (show ¬ (1 = 0 /\ 4 = 4) by decide), (show 1 + 3 <= sizeLine by decide), rfl, k⟩
  have hq := q ⟨p.us.map fun u => { u with lab := z }, p.rs.map fun r => { r with nm := z }, p.way, p.gp, p.gc⟩ ⟨fun u hu => ?_, by rw [List.length_map]; exact hp.ul, fun r hr => ?_, by rw [List.length_map]; exact hp.rl, hp.gp, hp.gc, hp.wy, hp.n4⟩ rfl (List.length_map _) fun r hr => ?_
  · unfold encPl at hq
    rw [List.map_map, List.map_map] at hq
    exact hq
  · obtain ⟨u', hu', rfl⟩ := List.mem_map.mp hu
    exact hp.us u' hu'
  · obtain ⟨r', hr', rfl⟩ := List.mem_map.mp hr
    have := hp.rs r' hr'
    exact ⟨this.ps, this.mr, this.bd⟩
  · obtain ⟨r', hr', rfl⟩ := List.mem_map.mp hr
    exact hb r' hr'
theorem ok_l_alike (A : AllD K mg) (B : Blt mg) : FnOk P w K mg base (CXF P w) 1 A.f_l_alike A.d_l_alike ["_law_plan", "_law_number"] (spV K C_l_alike) :=
  fn_V A.D_l_alike.F sc_l_alike b_l_alike len_l_alike nice_l_alike fun cdv A_ outer s H E hr => have hu := hr.units
  vs_cons (vs_if (vt_cmp (o_ne rfl hu) (v_modC (v_var (i := 1) rfl (Or.inl lk_l_alike__law_number))) (v_int) (nomark _)) (vs_one (vs_ret (v_var (i := 0) rfl (Or.inl lk_l_alike__law_plan)))) (vs_nil))
  (vs_cons (vs_set (i := 2) sc_l_alike.nd rfl (Or.inr lk_l_alike__law_name) (v_ix (o_ix rfl) (v_lst (va_Constant (v_str) (va_Constant (v_str) (va_Constant (v_str) va_nil)))) (v_modC (v_divC (v_var (i := 1) rfl (Or.inl lk_l_alike__law_number)))) (fun _ _ => rfl)))
  (vs_cons (vs_set (i := 3) sc_l_alike.nd rfl (Or.inl lk_l_alike__law_unknowns) (v_fnT (f_tuple rfl) lk_l_alike_tuple B.tuple bt_tuple (va_ListComp (v_comp rfl (frees_of ["_law_one"] [("_law_name", 2)] ["_law_plan", "_law_number", "_law_name", "_law_unknowns"] (by decide +kernel)) (visC s_l_alike (by decide +kernel)) (by decide +kernel) rfl (by decide +kernel) (fun y hy => PySem.mem_of_lookup hy) rfl (tg_name 0) (keeps_name (by decide)) noOw_name (vi_seq rfl (v_ix (o_ix rfl) (v_var (i := 0) rfl (Or.inl lk_l_alike__law_plan)) (v_int) (fun _ _ => rfl))) (fun cl C s H fp pins => pg_name (i := 0) (show (["_law_one", "_law_name"] : List Str).Nodup by decide +kernel) rfl (Or.inl (c_loc (by decide +kernel))) (.inr (c_loc (by decide +kernel)))) (fun cl C s H fp pins => vif_nil) (fun cl C s H fp pins => v_op (o_add rfl) (v_tup (va_Name (v_var (i := 1) rfl (c_free (by decide +kernel))) va_nil)) (v_slSN rfl (v_var (i := 0) rfl (c_vloc (by decide +kernel))) (v_int)))) va_nil)))
  (vs_one (vs_ret (v_tup (va_Name (v_var (i := 3) rfl (Or.inl lk_l_alike__law_unknowns)) (va_Call (v_fnT (f_tuple rfl) lk_l_alike_tuple B.tuple bt_tuple (va_ListComp (v_comp rfl (frees_of ["_law_row_here"] [("_law_name", 2)] ["_law_plan", "_law_number", "_law_name", "_law_unknowns"] (by decide +kernel)) (visC s_l_alike (by decide +kernel)) (by decide +kernel) rfl (by decide +kernel) (fun y hy => PySem.mem_of_lookup hy) rfl (tg_name 0) (keeps_name (by decide)) noOw_name (vi_seq rfl (v_ix (o_ix rfl) (v_var (i := 0) rfl (Or.inl lk_l_alike__law_plan)) (v_int) (fun _ _ => rfl))) (fun cl C s H fp pins => pg_name (i := 0) (show (["_law_row_here", "_law_name"] : List Str).Nodup by decide +kernel) rfl (Or.inl (c_loc (by decide +kernel))) (.inr (c_loc (by decide +kernel)))) (fun cl C s H fp pins => vif_nil) (fun cl C s H fp pins => v_op (o_add rfl) (v_tup (va_Name (v_var (i := 1) rfl (c_free (by decide +kernel))) va_nil)) (v_slSN rfl (v_var (i := 0) rfl (c_vloc (by decide +kernel))) (v_int)))) va_nil)) (va_Subscript (v_ix (o_ix rfl) (v_var (i := 0) rfl (Or.inl lk_l_alike__law_plan)) (v_int) (fun _ _ => rfl)) va_nil))))))))
end
end Pw
set_option Elab.async false
set_option linter.all false
set_option maxRecDepth 100000
set_option maxHeartbeats 4000000
namespace Pw
open PySem L2
seal PE PT PW PA PS PSs PG PGs PI PIf PO
section
variable {P : Program} {w : World} {K : PySem.W.Frag} {mg : Str -> Option Value} {base : Heap} {f : Addr} {fd : FuncData}
theorem turn_S {n : Nat} {p : Pln} (hp : PlOk n p) (h : PsS n p.gp) : PsS n (turnP p) := by
  unfold turnP
  split
  · exact h
  · refine ⟨by rw [List.pairwise_map]; exact h.r, fun m hm => ?_, fun m hm => ?_⟩
    · obtain ⟨x, hx, rfl⟩ := List.mem_map.mp hm
      show (negF x.2).1 ≠ 0
      rw [negF_eq (hp.gp.it x hx).1.1]
      have := h.z x hx
      show -1 * x.2.1 ≠ 0
      omega
    · obtain ⟨x, hx, rfl⟩ := List.mem_map.mp hm
      exact h.i x hx
theorem hgt_ps (n : Nat) (ps : Pq) : hgtL (n + 2) (ps.map fun m => Tv.tup [.int m.1, encF m.2]) = true := by
  induction ps with
  | nil => rw [List.map_nil]; unfold hgtL; rfl
  | cons m ps ih =>
    rw [List.map_cons]
    unfold hgtL
    rw [ih, Bool.and_true]
    simp [hgt, hgtL, encF]
theorem dot_zero {vals : List Fq} (h : ∀ i, valAt vals i = (0, 1)) : ∀ ps : Pq, dotQ vals ps = 0
  | [] => rfl
  | m :: ps => by
    show qv m.2 * qv (valAt vals m.1) + dotQ vals ps = 0
    rw [h, qv_one, dot_zero h ps]
    grind
theorem enum_mem {l : List Tv} {x : Tv} (h : x ∈ enumL l) : ∃ (i : Nat) (s : Tv), l[i]? = some s /\ x = .tup [.int i, s] := by
  obtain ⟨i, hi⟩ := List.mem_iff_getElem?.mp h
  obtain ⟨s, h1, h2⟩ := enum_get hi
  exact ⟨i, s, h1, h2⟩
theorem pal {α β : Type} {F : α -> β -> Prop} {l₁ : List α} {l₂ : List β} (h : Paired F l₁ l₂) : ∀ b ∈ l₂, ∃ a ∈ l₁, F a b := by
  induction h with
  | nil => intro b hb; cases hb
  | cons f _ ih =>
    intro b hb
    rcases List.mem_cons.mp hb with rfl | hb
    · exact ⟨_, List.mem_cons_self, f⟩
    · obtain ⟨a, ha, fa⟩ := ih b hb
      exact ⟨a, List.mem_cons_of_mem _ ha, fa⟩
def b_law_d1 : Sv := vIfS (vOr (vNot (vTest truT (vFn wIsi [vVar 13, vC (.ty "bool")]))) (vCmp wNe (vVar 13) (vCall C_l_leads_on [vVar 7, vVar 5]))) (vRet (vC (.bl false))) (vNext)
def b_law_d0s : Sv := vSet 13 (vCall C_leads_on [vVar 7, vVar 5])
def b_law_d0 : Sv := vSeq b_law_d0s b_law_d1
def b_law_c2 : Sv := vFor (vSeqI (vLst [vVar 8, vVar 9, vVar 8])) (gV 14) (vIfS (vNot (vTest truT (vCall C_l_floor_good [vVar 7, vVar 12, vVar 14]))) (vRet (vC (.bl false))) (vNext))
def b_law_c1s : Sv := vIfS (vCmp wEq (vVar 11) (vUn (wModC 3) (vUn (wDivC 300) (vVar 1)))) (b_law_d0) (vNext)
def b_law_c1 : Sv := vSeq b_law_c1s b_law_c2
def b_law_c0s : Sv := vSet 12 (vOp wIx (vVar 10) (vUn (wModC 3) (vOp wAdd (vUn (wDivC 50) (vVar 1)) (vOp wMul (vVar 11) (vOp wIx (vLst [vC (.int 1), vC (.int 2)]) (vUn (wModC 2) (vUn (wDivC 150) (vVar 1))))))))
def b_law_c0 : Sv := vSeq b_law_c0s b_law_c1
def b_law_13 : Sv := vRet (vOp wIs (vCall C_leads_on [vVar 7, vFn wTuple [vComp 1 [] (vSeqI (vVar 4)) (gV 0) (vYes) (vTup [vC (.int 0), vC (.int 1)])]]) (vC (.bl false)))
def b_law_12s : Sv := vFor (vRng (vC (.int 3))) (gV 11) (b_law_c0)
def b_law_12 : Sv := vSeq b_law_12s b_law_13
def b_law_11s : Sv := vSet 10 (vLst [vCall C_l_turned [vVar 7], vTup [], vCall C_l_pairs [vCall C_l_mixed [vVar 1, vC (.int 43)], vVar 2]])
def b_law_11 : Sv := vSeq b_law_11s b_law_12
def b_law_10s : Sv := vIfS (vCmp wNe (vCall C_turned [vVar 7]) (vCall C_l_turned [vVar 7])) (vRet (vC (.bl false))) (vNext)
def b_law_10 : Sv := vSeq b_law_10s b_law_11
def b_law_9s : Sv := vSet 9 (vFn wTuple [vComp 2 [0] (vEnumT (vVar 6)) (gT [0, 1]) (vYes) (vCall C_l_price [vVar 1, vCall C_l_mixed [vCall C_l_at [vVar 2, vC (.int 17)], vVar 0]])])
def b_law_9 : Sv := vSeq b_law_9s b_law_10
def b_law_8s : Sv := vSet 8 (vFn wTuple [vComp 2 [0] (vEnumT (vVar 6)) (gT [0, 1]) (vYes) (vCall C_l_price [vVar 1, vCall C_l_mixed [vCall C_l_at [vVar 2, vOp wAdd (vC (.int 13)) (vVar 0)], vVar 0]])])
def b_law_8 : Sv := vSeq b_law_8s b_law_9
def b_law_7s : Sv := vSet 7 (vCall C_l_alike [vTup [vVar 4, vVar 6, vCall C_l_goal [vVar 1, vVar 5]], vCall C_l_mixed [vVar 1, vC (.int 70)]])
def b_law_7 : Sv := vSeq b_law_7s b_law_8
def b_law_6s : Sv := vSet 6 (vFn wTuple [vComp 1 [5, 0] (vRng (vUn (wModC 5) (vUn (wDivC 5) (vVar 1)))) (gV 0) (vYes) (vCall C_l_row [vCall C_l_at [vVar 2, vOp wAdd (vC (.int 9)) (vVar 0)], vVar 0, vVar 1])])
def b_law_6 : Sv := vSeq b_law_6s b_law_7
def b_law_5s : Sv := vSet 5 (vFn wTuple [vComp 1 [4, 0] (vRng (vVar 2)) (gV 0) (vYes) (vCall C_l_step [vOp wIx (vVar 1) (vVar 0), vCall C_l_mixed [vCall C_l_at [vVar 2, vOp wAdd (vC (.int 5)) (vVar 0)], vVar 0]])])
def b_law_5 : Sv := vSeq b_law_5s b_law_6
def b_law_4s : Sv := vSet 4 (vFn wTuple [vComp 2 [] (vEnumL (vVar 3)) (gT [0, 1]) (vYes) (vCall C_l_unknown [vVar 1, vVar 0])])
def b_law_4 : Sv := vSeq b_law_4s b_law_5
def b_law_3s : Sv := vIfS (vCmp wEq (vUn (wModC 2) (vUn (wDivC 25) (vVar 1))) (vC (.int 1))) (vSet 3 (vComp 1 [] (vSeqI (vVar 3)) (gV 0) (vYes) (vOp wAdd (vOp wAdd (vOp wSub (vVar 0) (vUn (wModC 8) (vVar 0))) (vC (.int 3))) (vUn (wModC 5) (vVar 0))))) (vNext)
def b_law_3 : Sv := vSeq b_law_3s b_law_4
def b_law_2s : Sv := vSet 3 (vComp 1 [0] (vRng (vVar 2)) (gV 0) (vYes) (vCall C_l_mixed [vCall C_l_at [vVar 1, vOp wAdd (vC (.int 1)) (vVar 0)], vVar 0]))
def b_law_2 : Sv := vSeq b_law_2s b_law_3
def b_law_1s : Sv := vSet 2 (vUn (wModC 5) (vVar 1))
def b_law_1 : Sv := vSeq b_law_1s b_law_2
def b_law_0s : Sv := vSet 1 (vCall C_l_at [vVar 0, vC (.int 0)])
def b_law : Sv :=
  vSeq b_law_0s b_law_1
def C_law : Ct := fun ts P => ∃ ns : List Int, ts = [.scr (ns.map Tv.int)] /\ P (.ok (.va (.bl true)))
theorem sc_law : FnScope ["_law_script", "_law_cell", "_law_many", "_law_numbers", "_law_unknowns", "_law_way", "_law_rows", "_law_plan", "_law_prices", "_law_other", "_law_some", "_law_k", "_law_pairs_here", "_law_found", "_law_one"] ["_law_script"] (defScope s_law) := ⟨rfl, rfl, rfl, by decide +kernel, rfl, by decide +kernel, by decide +kernel⟩
theorem lk_law__law_script : Lk s_law "_law_script" .cell := by decide +kernel
theorem lk_law__law_cell : Lk s_law "_law_cell" .local := by decide +kernel
theorem lk_law__law_many : Lk s_law "_law_many" .local := by decide +kernel
theorem lk_law__law_numbers : Lk s_law "_law_numbers" .local := by decide +kernel
theorem lk_law__law_unknowns : Lk s_law "_law_unknowns" .cell := by decide +kernel
theorem lk_law__law_way : Lk s_law "_law_way" .cell := by decide +kernel
theorem lk_law__law_rows : Lk s_law "_law_rows" .local := by decide +kernel
theorem lk_law__law_plan : Lk s_law "_law_plan" .local := by decide +kernel
theorem lk_law__law_prices : Lk s_law "_law_prices" .local := by decide +kernel
theorem lk_law__law_other : Lk s_law "_law_other" .local := by decide +kernel
theorem lk_law__law_some : Lk s_law "_law_some" .local := by decide +kernel
theorem lk_law__law_k : Lk s_law "_law_k" .local := by decide +kernel
theorem lk_law__law_pairs_here : Lk s_law "_law_pairs_here" .local := by decide +kernel
theorem lk_law__law_found : Lk s_law "_law_found" .local := by decide +kernel
theorem lk_law__law_one : Lk s_law "_law_one" .local := by decide +kernel
theorem lk_law__law_alike : Lk s_law "_law_alike" .globalImplicit := by decide +kernel
theorem lk_law__law_at : Lk s_law "_law_at" .globalImplicit := by decide +kernel
theorem lk_law__law_floor_good : Lk s_law "_law_floor_good" .globalImplicit := by decide +kernel
theorem lk_law__law_goal : Lk s_law "_law_goal" .globalImplicit := by decide +kernel
theorem lk_law__law_leads_on : Lk s_law "_law_leads_on" .globalImplicit := by decide +kernel
theorem lk_law__law_mixed : Lk s_law "_law_mixed" .globalImplicit := by decide +kernel
theorem lk_law__law_pairs : Lk s_law "_law_pairs" .globalImplicit := by decide +kernel
theorem lk_law__law_turned : Lk s_law "_law_turned" .globalImplicit := by decide +kernel
theorem lk_law_bool : Lk s_law "bool" .globalImplicit := by decide +kernel
theorem lk_law_enumerate : Lk s_law "enumerate" .globalImplicit := by decide +kernel
theorem lk_law_isinstance : Lk s_law "isinstance" .globalImplicit := by decide +kernel
theorem lk_law_leads_on : Lk s_law "leads_on" .globalImplicit := by decide +kernel
theorem lk_law_range : Lk s_law "range" .globalImplicit := by decide +kernel
theorem lk_law_tuple : Lk s_law "tuple" .globalImplicit := by decide +kernel
theorem lk_law_turned : Lk s_law "turned" .globalImplicit := by decide +kernel
theorem len_law : ∀ ts Q, C_law ts Q -> ts.length = 1 := fun ts Q ⟨_, e, _⟩ => by rw [e]; rfl
section
variable {Q : Ans Sl -> Prop} {ns : List Int} {c : Int} {n : Nat} {us : List Un} {way xs ys : List Fq} {p : Pln} {ps : Pq} {N R : Sl}
theorem law_13 (hp : PlOk n p) (hul : us.length = n) (a b d e : Sl) (q : Q (.ok (.va (.bl true)))) : b_law_13 [.va (.scr (ns.map Tv.int)), .va (.int c), .va (.int n), N, .va (.tup (us.map encU)), .va (.tup (encVs way)), R, .va (encPl p), .va (.tup (encVs xs)), .va (.tup (encVs ys)), .va (.lst [encP (turnP p), .tup [], encP ps]), a, b, d, e] (bodyK Q) := by
  unfold b_law_13
  have n4 := hp.n4
  refine ⟨few_line (by rw [List.length_map]; omega), compW_enc encU (fun _ => encF (0, 1)) (fun u hu Ky Kn k => ⟨_, rfl, rfl, rfl, k⟩) ?_⟩
  have hz : ∀ i, valAt (us.map fun _ => ((0, 1) : Fq)) i = (0, 1) := fun i => by
    unfold valAt
    rw [List.getD, List.getElem?_map]
    cases us[i.toNat]? <;> rfl
  refine ⟨n, p, us.map fun _ => (0, 1), by unfold encVs; rw [List.map_map]; rfl, hp, by rw [List.length_map]; exact hul, fun x hx => ?_, ?_⟩
  · obtain ⟨_, _, rfl⟩ := List.mem_map.mp hx
    exact gd_one (by decide)
  · show Q (.ok (.va (.bl (ldQ p _ == false))))
    have : ldQ p (us.map fun _ => ((0, 1) : Fq)) = false := by
      unfold ldQ
      rw [dot_zero hz (turnP p)]
      simp
    rw [this]
    exact q
theorem law_c2 {K : En -> Prop} {P : Fl -> En -> Prop} {qs : Pq} {a d e : Sl} {S : Tv} (hp : PlOk n p) (hb : ∀ r ∈ p.rs, Gd 31 r.bd) (hs : PsS n qs) (gs : ∀ m ∈ qs, Gd 33 m.2) (xl : xs.length = p.rs.length) (gx : ∀ x ∈ xs, Gd 31 x) (yl : ys.length = p.rs.length) (gy : ∀ x ∈ ys, Gd 31 x) (k : ∀ e, K [.va (.scr (ns.map Tv.int)), .va (.int c), .va (.int n), N, .va (.tup (us.map encU)), .va (.tup (encVs way)), R, .va (encPl p), .va (.tup (encVs xs)), .va (.tup (encVs ys)), .va S, a, .va (encP qs), d, e]) : b_law_c2 [.va (.scr (ns.map Tv.int)), .va (.int c), .va (.int n), N, .va (.tup (us.map encU)), .va (.tup (encVs way)), R, .va (encPl p), .va (.tup (encVs xs)), .va (.tup (encVs ys)), .va S, a, .va (encP qs), d, e] (turnK K P) := by
  unfold b_law_c2
  refine forW_by (fun j ρ => ∃ e, ρ = [.va (.scr (ns.map Tv.int)), .va (.int c), .va (.int n), N, .va (.tup (us.map encU)), .va (.tup (encVs way)), R, .va (encPl p), .va (.tup (encVs xs)), .va (.tup (encVs ys)), .va S, a, .va (encP qs), d, e]) ⟨_, rfl⟩ (fun j x ρ e hj K2 kk => ?_) fun ρ hj => ?_
  · obtain ⟨e, rfl⟩ := hj
    obtain ⟨zs, rfl, zl, gz⟩ : ∃ zs : List Fq, x = .tup (encVs zs) /\ zs.length = p.rs.length /\ ∀ x ∈ zs, Gd 31 x := by
      have hm := List.mem_of_getElem? (by assumption)
      simp only [List.mem_cons, List.not_mem_nil, or_false] at hm
      rcases hm with rfl | rfl | rfl
      · exact ⟨xs, rfl, xl, gx⟩
      · exact ⟨ys, rfl, yl, gy⟩
      · exact ⟨xs, rfl, xl, gx⟩
    exact ⟨_, rfl, n, p, qs, zs, rfl, hp, hb, hs, gs, zl, gz, kk _ ⟨_, rfl⟩⟩
  · obtain ⟨e, rfl⟩ := hj
    exact k e
theorem law_d0 {K : Fl -> En -> Prop} {a e d : Sl} {S qs : Tv} (hp : PlOk n p) (hv : way.length = n) (gv : ∀ x ∈ way, Gd 200 x) (k : ∀ d, K .nx [.va (.scr (ns.map Tv.int)), .va (.int c), .va (.int n), N, .va (.tup (us.map encU)), .va (.tup (encVs way)), R, .va (encPl p), .va (.tup (encVs xs)), .va (.tup (encVs ys)), .va S, a, .va qs, d, e]) : b_law_d0 [.va (.scr (ns.map Tv.int)), .va (.int c), .va (.int n), N, .va (.tup (us.map encU)), .va (.tup (encVs way)), R, .va (encPl p), .va (.tup (encVs xs)), .va (.tup (encVs ys)), .va S, a, .va qs, d, e] K := by
  unfold b_law_d0
  refine ⟨n, p, way, rfl, hp, hv, gv, ?_⟩
  unfold b_law_d1
  refine ⟨n, p, way, rfl, hp, hv, gv, ite_go (fun cc => ?_) fun _ => k _⟩
  simp at cc
theorem law_12 (hp : PlOk n p) (hb : ∀ r ∈ p.rs, Gd 31 r.bd) (hul : us.length = n) (hg : PsS n p.gp) (hs : PsS n ps) (gs : ∀ m ∈ ps, Gd 33 m.2) (hv : way.length = n) (gv : ∀ x ∈ way, Gd 200 x) (xl : xs.length = p.rs.length) (gx : ∀ x ∈ xs, Gd 31 x) (yl : ys.length = p.rs.length) (gy : ∀ x ∈ ys, Gd 31 x) (q : Q (.ok (.va (.bl true)))) : b_law_12 [.va (.scr (ns.map Tv.int)), .va (.int c), .va (.int n), N, .va (.tup (us.map encU)), .va (.tup (encVs way)), R, .va (encPl p), .va (.tup (encVs xs)), .va (.tup (encVs ys)), .va (.lst [encP (turnP p), .tup [], encP ps]), .un, .un, .un, .un] (bodyK Q) := by
  suffices key : ∀ T : Sv, (∀ a b d e, T [.va (.scr (ns.map Tv.int)), .va (.int c), .va (.int n), N, .va (.tup (us.map encU)), .va (.tup (encVs way)), R, .va (encPl p), .va (.tup (encVs xs)), .va (.tup (encVs ys)), .va (.lst [encP (turnP p), .tup [], encP ps]), a, b, d, e] (bodyK Q)) -> vSeq b_law_12s T [.va (.scr (ns.map Tv.int)), .va (.int c), .va (.int n), N, .va (.tup (us.map encU)), .va (.tup (encVs way)), R, .va (encPl p), .va (.tup (encVs xs)), .va (.tup (encVs ys)), .va (.lst [encP (turnP p), .tup [], encP ps]), .un, .un, .un, .un] (bodyK Q) from key b_law_13 fun a b d e => law_13 hp hul a b d e q
  intro T hT
  refine ⟨⟨by decide, by decide⟩, ?_⟩
  refine forW_by (fun i ρ => ∃ a b d e, ρ = [.va (.scr (ns.map Tv.int)), .va (.int c), .va (.int n), N, .va (.tup (us.map encU)), .va (.tup (encVs way)), R, .va (encPl p), .va (.tup (encVs xs)), .va (.tup (encVs ys)), .va (.lst [encP (turnP p), .tup [], encP ps]), a, b, d, e]) ⟨_, _, _, _, rfl⟩ (fun i x ρ e hi K k => ?_) fun ρ hi => ?_
  · obtain ⟨a, b, d, e', rfl⟩ := hi
    obtain ⟨hin, rfl⟩ := rng_get e
    have hin : i < 3 := by simpa using hin
    refine ⟨_, rfl, ix_mem (l := [.int 1, .int 2]) (by omega) (by show c / 150 % 2 < 2; omega) fun t ht => ?_⟩
    obtain ⟨m, rfl, hm⟩ : ∃ m : Int, t = .int m /\ m.natAbs <= 2 := by
      simp only [List.mem_cons, List.not_mem_nil, or_false] at ht
      rcases ht with rfl | rfl <;> exact ⟨_, rfl, by decide⟩
    refine ⟨⟨small_BM (by omega), small_BM (by omega)⟩, ix_mem (l := [encP (turnP p), .tup [], encP ps]) (by omega) (by show (c / 50 + i * m) % 3 < 3; omega) fun t ht => ?_⟩
    obtain ⟨qs, rfl, hqs, gqs⟩ : ∃ qs : Pq, t = encP qs /\ PsS n qs /\ ∀ m ∈ qs, Gd 33 m.2 := by
      simp only [List.mem_cons, List.not_mem_nil, or_false] at ht
      rcases ht with rfl | rfl | rfl
      · exact ⟨_, rfl, turn_S hp hg, fun m hm => (turn_it hp m hm).1⟩
      · exact ⟨[], rfl, ⟨.nil, fun m hm => (by cases hm), fun m hm => (by cases hm)⟩, fun m hm => (by cases hm)⟩
      · exact ⟨ps, rfl, hs, gs⟩
    suffices key2 : ∀ (T2 : Sv) (P2 : Fl -> En -> Prop), (∀ d, T2 [.va (.scr (ns.map Tv.int)), .va (.int c), .va (.int n), N, .va (.tup (us.map encU)), .va (.tup (encVs way)), R, .va (encPl p), .va (.tup (encVs xs)), .va (.tup (encVs ys)), .va (.lst [encP (turnP p), .tup [], encP ps]), .va (.int i), .va (encP qs), d, e'] P2) -> vSeq b_law_c1s T2 [.va (.scr (ns.map Tv.int)), .va (.int c), .va (.int n), N, .va (.tup (us.map encU)), .va (.tup (encVs way)), R, .va (encPl p), .va (.tup (encVs xs)), .va (.tup (encVs ys)), .va (.lst [encP (turnP p), .tup [], encP ps]), .va (.int i), .va (encP qs), d, e'] P2 from key2 b_law_c2 _ fun d => law_c2 hp hb hqs gqs xl gx yl gy fun e => k _ ⟨_, _, _, _, rfl⟩
    intro T2 P2 h2
    exact ite_go (fun _ => law_d0 hp hv gv fun d => h2 d) fun _ => h2 d
  · obtain ⟨a, b, d, e', rfl⟩ := hi
    exact hT a b d e'
theorem law_10 (hp : PlOk n p) (hb : ∀ r ∈ p.rs, Gd 31 r.bd) (hul : us.length = n) (hg : PsS n p.gp) (hv : way.length = n) (gv : ∀ x ∈ way, Gd 200 x) (xl : xs.length = p.rs.length) (gx : ∀ x ∈ xs, Gd 31 x) (yl : ys.length = p.rs.length) (gy : ∀ x ∈ ys, Gd 31 x) (q : Q (.ok (.va (.bl true)))) : b_law_10 [.va (.scr (ns.map Tv.int)), .va (.int c), .va (.int n), N, .va (.tup (us.map encU)), .va (.tup (encVs way)), R, .va (encPl p), .va (.tup (encVs xs)), .va (.tup (encVs ys)), .un, .un, .un, .un, .un] (bodyK Q) := by
  suffices key : ∀ T : Sv, (∀ ps : Pq, PsS n ps -> (∀ m ∈ ps, Gd 33 m.2) -> T [.va (.scr (ns.map Tv.int)), .va (.int c), .va (.int n), N, .va (.tup (us.map encU)), .va (.tup (encVs way)), R, .va (encPl p), .va (.tup (encVs xs)), .va (.tup (encVs ys)), .va (.lst [encP (turnP p), .tup [], encP ps]), .un, .un, .un, .un] (bodyK Q)) -> vSeq b_law_10s (vSeq b_law_11s T) [.va (.scr (ns.map Tv.int)), .va (.int c), .va (.int n), N, .va (.tup (us.map encU)), .va (.tup (encVs way)), R, .va (encPl p), .va (.tup (encVs xs)), .va (.tup (encVs ys)), .un, .un, .un, .un, .un] (bodyK Q) from key b_law_12 fun ps hs gs => law_12 hp hb hul hg hs gs hv gv xl gx yl gy q
  intro T hT
  refine ⟨n, p, rfl, hp, ⟨n, p, rfl, hp, .inr (.inl ⟨rfl, hgt_ps 38 _, ?_⟩)⟩⟩
  exact ⟨n, p, rfl, hp, c, 43, rfl, ⟨by decide, by decide⟩, fun m m0 m1 => ⟨m, n, rfl, hp.n4, fun ps hps hs => hT ps hs fun x hx => (hps.it x hx).1.mono (by decide)⟩⟩
end
theorem nice_law : ∀ ts Q, C_law ts Q -> bodyC 15 b_law ts Q := by
  rintro _ Q ⟨ns, rfl, q⟩
  suffices key : ∀ T : Sv, (∀ (c : Int) (n : Nat) (us : List Un) (way : List Fq) (p : Pln) (xs ys : List Fq) (N R : Sl), PlOk n p -> (∀ r ∈ p.rs, Gd 31 r.bd) -> us.length = n -> PsS n p.gp -> way.length = n -> (∀ x ∈ way, Gd 200 x) -> xs.length = p.rs.length -> (∀ x ∈ xs, Gd 31 x) -> ys.length = p.rs.length -> (∀ x ∈ ys, Gd 31 x) -> T [.va (.scr (ns.map Tv.int)), .va (.int c), .va (.int n), N, .va (.tup (us.map encU)), .va (.tup (encVs way)), R, .va (encPl p), .va (.tup (encVs xs)), .va (.tup (encVs ys)), .un, .un, .un, .un, .un] (bodyK Q)) -> bodyC 15 (vSeq b_law_0s (vSeq b_law_1s (vSeq b_law_2s (vSeq b_law_3s (vSeq b_law_4s (vSeq b_law_5s (vSeq b_law_6s (vSeq b_law_7s (vSeq b_law_8s (vSeq b_law_9s T)))))))))) [.scr (ns.map Tv.int)] Q from key b_law_10 fun c n us way p xs ys N R hp hb hul hg hv gv xl gx yl gy => law_10 hp hb hul hg hv gv xl gx yl gy q
  intro T hT
  refine ⟨ns, 0, rfl, by decide, fun c => ?_⟩
  obtain ⟨n, hn⟩ : ∃ n : Nat, c % 5 = n := ⟨(c % 5).toNat, by omega⟩
  have n4 : n <= 4 := by omega
  suffices step4 : ∀ ms : List Int, ms.length = n -> (∀ m ∈ ms, 0 <= m) -> vSeq b_law_4s (vSeq b_law_5s (vSeq b_law_6s (vSeq b_law_7s (vSeq b_law_8s (vSeq b_law_9s T))))) [.va (.scr (ns.map Tv.int)), .va (.int c), .va (.int n), .va (.lst (ms.map Tv.int)), .un, .un, .un, .un, .un, .un, .un, .un, .un, .un, .un] (bodyK Q) by
    suffices step3 : ∀ (T3 : Sv) (ms : List Int), ms.length = n -> (∀ m ∈ ms, 0 <= m) -> (∀ ms : List Int, ms.length = n -> (∀ m ∈ ms, 0 <= m) -> T3 [.va (.scr (ns.map Tv.int)), .va (.int c), .va (.int n), .va (.lst (ms.map Tv.int)), .un, .un, .un, .un, .un, .un, .un, .un, .un, .un, .un] (bodyK Q)) -> vSeq b_law_3s T3 [.va (.scr (ns.map Tv.int)), .va (.int c), .va (.int n), .va (.lst (ms.map Tv.int)), .un, .un, .un, .un, .un, .un, .un, .un, .un, .un, .un] (bodyK Q) by
      show vSeq b_law_2s (vSeq b_law_3s (vSeq b_law_4s (vSeq b_law_5s (vSeq b_law_6s (vSeq b_law_7s (vSeq b_law_8s (vSeq b_law_9s T))))))) [.va (.scr (ns.map Tv.int)), .va (.int c), .va (.int (c % 5)), .un, .un, .un, .un, .un, .un, .un, .un, .un, .un, .un, .un] (bodyK Q)
      rw [hn]
      refine ⟨⟨by omega, by omega⟩, few_line (by rw [rng_len]; omega), ?_⟩
      refine compW_any Tv.int (fun _ (m : Int) => 0 <= m) (fun x hx Ky Kn kk => ?_) fun ms hms => ?_
      · obtain ⟨k, hk, rfl⟩ := rng_mem hx
        have hk : k < n := by simpa using hk
        exact ⟨_, rfl, rfl, ns, 1 + (k : Int), rfl, by omega, fun c2 => ⟨c2, k, rfl, ⟨by omega, by omega⟩, fun m m0 m1 => ⟨rfl, kk m m0⟩⟩⟩
      · exact step3 _ ms (by have := hms.length; rw [rng_len] at this; omega) (fun m hm => by obtain ⟨_, _, h⟩ := pal hms m hm; exact h) step4
    intro T3 ms hl h0 h3
    refine ite_go (fun _ => ?_) fun _ => h3 ms hl h0
    refine ⟨few_line (by rw [List.length_map]; omega), compW_enc Tv.int (fun m => .int (m - m % 8 + 3 + m % 5)) (fun m hm Ky Kn k => ⟨_, rfl, rfl, rfl, k⟩) ?_⟩
    have := h3 (ms.map fun m => m - m % 8 + 3 + m % 5) (by rw [List.length_map]; exact hl) fun m hm => by
      obtain ⟨x, hx, rfl⟩ := List.mem_map.mp hm
      have := h0 x hx
      omega
    rw [List.map_map] at this
    exact this
  intro ms hml h0
  refine ⟨few_line (by rw [enum_len, List.length_map]; omega), ?_⟩
  refine compW_any encU (fun _ u => UnOk u) (fun x hx Ky Kn kk => ?_) fun us hus => ?_
  · obtain ⟨i, s, hs, rfl⟩ := enum_mem hx
    rw [List.getElem?_map] at hs
    obtain ⟨m, hm, rfl⟩ := Option.map_eq_some_iff.mp hs
    have hi : i < ms.length := (List.getElem?_eq_some_iff.mp hm).1
    exact ⟨_, rfl, rfl, m, i, rfl, h0 m (List.mem_of_getElem? hm), ⟨by omega, by omega⟩, fun u hu => ⟨rfl, kk u hu⟩⟩
  have hul : us.length = n := by have := hus.length; rw [enum_len, List.length_map] at this; omega
  have hu : ∀ u ∈ us, UnOk u := fun u hm => by obtain ⟨_, _, h⟩ := pal hus u hm; exact h
  clear hus
  refine ⟨⟨by omega, by omega⟩, few_line (by rw [rng_len]; omega), ?_⟩
  refine compW_any encF (fun _ u => Gd 31 u) (fun x hx Ky Kn kk => ?_) fun way hvs => ?_
  · obtain ⟨k, hk, rfl⟩ := rng_mem hx
    have hk : k < n := by simpa using hk
    have hku : k < us.length := by omega
    refine ⟨_, rfl, rfl, ix_nat (t := encU us[k]) (by rw [List.getElem?_map, List.getElem?_eq_getElem hku]; rfl) ?_⟩
    exact ⟨ns, 5 + (k : Int), rfl, by omega, fun c2 => ⟨c2, k, rfl, ⟨by omega, by omega⟩, fun m m0 m1 => ⟨us[k], m, rfl, m0, fun x gx => ⟨rfl, kk x gx⟩⟩⟩⟩
  have hvl : way.length = n := by have := hvs.length; rw [rng_len] at this; omega
  have gv : ∀ x ∈ way, Gd 200 x := fun u hm => by obtain ⟨_, _, h⟩ := pal hvs u hm; exact h.mono (by decide)
  clear hvs
  refine ⟨⟨by omega, by omega⟩, few_line (by rw [rng_len]; omega), ?_⟩
  refine compW_any encR (fun _ r => RwOk n r /\ Gd 31 r.bd) (fun x hx Ky Kn kk => ?_) fun rs hrs => ?_
  · obtain ⟨k, hk, rfl⟩ := rng_mem hx
    exact ⟨_, rfl, rfl, ns, 9 + (k : Int), rfl, by omega, fun c2 => ⟨c2, k, n, way, rfl, by omega, n4, hvl, gv, fun r ro gb => ⟨rfl, kk r ⟨ro, gb⟩⟩⟩⟩
  have hrl : rs.length <= 4 := by have := hrs.length; rw [rng_len] at this; omega
  have hr : ∀ r ∈ rs, RwOk n r /\ Gd 31 r.bd := fun u hm => by obtain ⟨_, _, h⟩ := pal hrs u hm; exact h
  clear hrs
  refine ⟨c, n, way, rfl, n4, hvl, gv, fun wy gp gc hw hgp hgs hgc => ⟨c, 70, rfl, ⟨by decide, by decide⟩, fun m m0 m1 => ⟨n, ⟨us, rs, wy, gp, gc⟩, m, rfl, ⟨hu, hul, fun r h => (hr r h).1, by show rs.length <= 5; omega, hgp, hgc, hw, n4⟩, m0, fun r h => (hr r h).2, fun p hp e1 e2 hb2 => ?_⟩⟩⟩
  have e2 : p.rs.length = rs.length := e2
  refine ⟨few_line (by rw [enum_len, List.length_map]; omega), ?_⟩
  refine compW_any encF (fun _ u => Gd 31 u) (fun x hx Ky Kn kk => ?_) fun xs hxs => ?_
  · obtain ⟨i, s, hs, rfl⟩ := enum_mem hx
    rw [List.getElem?_map] at hs
    obtain ⟨r, hm, rfl⟩ := Option.map_eq_some_iff.mp hs
    have hi : i < rs.length := (List.getElem?_eq_some_iff.mp hm).1
    exact ⟨_, rfl, rfl, ns, 13 + (i : Int), rfl, by omega, fun c2 => ⟨c2, i, rfl, ⟨by omega, by omega⟩, fun m m0 m1 => ⟨r, m, rfl, m0, fun a ga => ⟨rfl, kk a ga⟩⟩⟩⟩
  have hxl : xs.length = p.rs.length := by have := hxs.length; rw [enum_len, List.length_map] at this; omega
  have gx : ∀ x ∈ xs, Gd 31 x := fun u hm => by obtain ⟨_, _, h⟩ := pal hxs u hm; exact h
  clear hxs
  refine ⟨few_line (by rw [enum_len, List.length_map]; omega), ?_⟩
  refine compW_any encF (fun _ u => Gd 31 u) (fun x hx Ky Kn kk => ?_) fun ys hys => ?_
  · obtain ⟨i, s, hs, rfl⟩ := enum_mem hx
    rw [List.getElem?_map] at hs
    obtain ⟨r, hm, rfl⟩ := Option.map_eq_some_iff.mp hs
    have hi : i < rs.length := (List.getElem?_eq_some_iff.mp hm).1
    exact ⟨_, rfl, rfl, ns, 17, rfl, by decide, fun c2 => ⟨c2, i, rfl, ⟨by omega, by omega⟩, fun m m0 m1 => ⟨r, m, rfl, m0, fun a ga => ⟨rfl, kk a ga⟩⟩⟩⟩
  have hyl : ys.length = p.rs.length := by have := hys.length; rw [enum_len, List.length_map] at this; omega
  have gy : ∀ x ∈ ys, Gd 31 x := fun u hm => by obtain ⟨_, _, h⟩ := pal hys u hm; exact h
  clear hys
  have hgp' : PsS n p.gp := by rw [show p.gp = gp from e1]; exact hgs
  exact hT c n us way p xs ys _ _ hp hb2 hul hgp' hvl gv hxl gx hyl gy
theorem ok_law (A : AllD K mg) (B : Blt mg) : FnOk P w K mg base (CXF P w) 8 A.f_law A.d_law ["_law_script"] (spV K C_law) :=
  fn_V A.D_law.F sc_law b_law len_law nice_law fun cdv A_ outer s H E hr => have hu := hr.units
  vs_cons (vs_set (i := 1) sc_law.nd rfl (Or.inl lk_law__law_cell) (v_call rfl (ok_l_at A B) (hr.mono (by decide)) lk_law__law_at A.D_l_at.m A.D_l_at.F.kp A.D_l_at.b passes_fn (va_Name (v_var (i := 0) rfl (Or.inr (Or.inl lk_law__law_script))) (va_Constant (v_int) va_nil))))
  (vs_cons (vs_set (i := 2) sc_law.nd rfl (Or.inl lk_law__law_many) (v_modC (v_var (i := 1) rfl (Or.inl lk_law__law_cell))))
  (vs_cons (vs_setc (i0 := 3) sc_law.nd rfl lk_law__law_numbers rfl (frees_of ["_law_k"] [("_law_script", 0)] ["_law_script", "_law_cell", "_law_many", "_law_numbers", "_law_unknowns", "_law_way", "_law_rows", "_law_plan", "_law_prices", "_law_other", "_law_some", "_law_k", "_law_pairs_here", "_law_found", "_law_one"] (by decide +kernel)) (visC s_law (by decide +kernel)) (by decide +kernel) rfl (by decide +kernel) (fun y hy => PySem.mem_of_lookup hy) rfl (tg_name 0) (keeps_name (by decide)) noOw_name (vi_rng lk_law_range B.range (va_Name (v_var (i := 2) rfl (Or.inl lk_law__law_many)) va_nil)) (fun cl C s H fp pins => pg_name (i := 0) (show (["_law_k", "_law_script"] : List Str).Nodup by decide +kernel) rfl (Or.inl (c_loc (by decide +kernel))) (.inr (c_loc (by decide +kernel)))) (fun cl C s H fp pins => vif_nil) (fun cl C s H fp pins => v_call rfl (ok_l_mixed A B) (hr.mono (by decide)) (c_gl (by decide +kernel)) A.D_l_mixed.m A.D_l_mixed.F.kp A.D_l_mixed.b passE0 (va_Call (v_call rfl (ok_l_at A B) (hr.mono (by decide)) (c_gl (by decide +kernel)) A.D_l_at.m A.D_l_at.F.kp A.D_l_at.b passE0 (va_Name (v_var (i := 1) rfl (c_free (by decide +kernel))) (va_BinOp (v_op (o_add rfl) (v_int) (v_var (i := 0) rfl (c_vloc (by decide +kernel)))) va_nil))) (va_Name (v_var (i := 0) rfl (c_vloc (by decide +kernel))) va_nil))))
  (vs_cons (vs_if (vt_cmp (o_eq rfl hu) (v_modC (v_divC (v_var (i := 1) rfl (Or.inl lk_law__law_cell)))) (v_int) (nomark _)) (vs_one (vs_setc (i0 := 3) sc_law.nd rfl lk_law__law_numbers rfl (frees_of ["_law_number"] [] ["_law_script", "_law_cell", "_law_many", "_law_numbers", "_law_unknowns", "_law_way", "_law_rows", "_law_plan", "_law_prices", "_law_other", "_law_some", "_law_k", "_law_pairs_here", "_law_found", "_law_one"] (by decide +kernel)) (noFree rfl) (by decide +kernel) rfl (by decide +kernel) (fun y hy => PySem.mem_of_lookup hy) rfl (tg_name 0) (keeps_name (by decide)) noOw_name (vi_seq rfl (v_var (i := 3) rfl (Or.inl lk_law__law_numbers))) (fun cl C s H fp pins => pg_name (i := 0) (show (["_law_number"] : List Str).Nodup by decide +kernel) rfl (Or.inl (c_loc (by decide +kernel))) (.inr (c_loc (by decide +kernel)))) (fun cl C s H fp pins => vif_nil) (fun cl C s H fp pins => v_op (o_add rfl) (v_op (o_add rfl) (v_op o_sub (v_var (i := 0) rfl (c_vloc (by decide +kernel))) (v_modC (v_var (i := 0) rfl (c_vloc (by decide +kernel))))) (v_int)) (v_modC (v_var (i := 0) rfl (c_vloc (by decide +kernel))))))) (vs_nil))
  (vs_cons (vs_set (i := 4) sc_law.nd rfl (Or.inr lk_law__law_unknowns) (v_fnT (f_tuple rfl) lk_law_tuple B.tuple bt_tuple (va_ListComp (v_comp rfl (frees_of ["_law_k", "_law_number"] [] ["_law_script", "_law_cell", "_law_many", "_law_numbers", "_law_unknowns", "_law_way", "_law_rows", "_law_plan", "_law_prices", "_law_other", "_law_some", "_law_k", "_law_pairs_here", "_law_found", "_law_one"] (by decide +kernel)) (noFree rfl) (by decide +kernel) rfl (by decide +kernel) (fun y hy => PySem.mem_of_lookup hy) rfl (tg_tup rfl) (keeps_tup (by decide)) noOw_tup (vi_enumL rfl lk_law_enumerate B.enumerate (va_Name (v_var (i := 3) rfl (Or.inl lk_law__law_numbers)) va_nil)) (fun cl C s H fp pins => pg_tupK rfl rfl (vgs_cons (i := 0) (show (["_law_k", "_law_number"] : List Str).Nodup by decide +kernel) rfl (Or.inl (c_loc (by decide +kernel))) (.inr (c_loc (by decide +kernel))) (vgs_cons (i := 1) (show (["_law_k", "_law_number"] : List Str).Nodup by decide +kernel) rfl (Or.inl (c_loc (by decide +kernel))) (.inr (c_loc (by decide +kernel))) (vgs_nil)))) (fun cl C s H fp pins => vif_nil) (fun cl C s H fp pins => v_call rfl (ok_l_unknown A B) (hr.mono (by decide)) (c_gl (by decide +kernel)) A.D_l_unknown.m A.D_l_unknown.F.kp A.D_l_unknown.b passE0 (va_Name (v_var (i := 1) rfl (c_vloc (by decide +kernel))) (va_Name (v_var (i := 0) rfl (c_vloc (by decide +kernel))) va_nil)))) va_nil)))
  (vs_cons (vs_set (i := 5) sc_law.nd rfl (Or.inr lk_law__law_way) (v_fnT (f_tuple rfl) lk_law_tuple B.tuple bt_tuple (va_ListComp (v_comp rfl (frees_of ["_law_k"] [("_law_unknowns", 4), ("_law_script", 0)] ["_law_script", "_law_cell", "_law_many", "_law_numbers", "_law_unknowns", "_law_way", "_law_rows", "_law_plan", "_law_prices", "_law_other", "_law_some", "_law_k", "_law_pairs_here", "_law_found", "_law_one"] (by decide +kernel)) (visC s_law (by decide +kernel)) (by decide +kernel) rfl (by decide +kernel) (fun y hy => PySem.mem_of_lookup hy) rfl (tg_name 0) (keeps_name (by decide)) noOw_name (vi_rng lk_law_range B.range (va_Name (v_var (i := 2) rfl (Or.inl lk_law__law_many)) va_nil)) (fun cl C s H fp pins => pg_name (i := 0) (show (["_law_k", "_law_unknowns", "_law_script"] : List Str).Nodup by decide +kernel) rfl (Or.inl (c_loc (by decide +kernel))) (.inr (c_loc (by decide +kernel)))) (fun cl C s H fp pins => vif_nil) (fun cl C s H fp pins => v_call rfl (ok_l_step A B) (hr.mono (by decide)) (c_gl (by decide +kernel)) A.D_l_step.m A.D_l_step.F.kp A.D_l_step.b passE0 (va_Subscript (v_ix (o_ix rfl) (v_var (i := 1) rfl (c_free (by decide +kernel))) (v_var (i := 0) rfl (c_vloc (by decide +kernel))) (fun _ _ => rfl)) (va_Call (v_call rfl (ok_l_mixed A B) (hr.mono (by decide)) (c_gl (by decide +kernel)) A.D_l_mixed.m A.D_l_mixed.F.kp A.D_l_mixed.b passE0 (va_Call (v_call rfl (ok_l_at A B) (hr.mono (by decide)) (c_gl (by decide +kernel)) A.D_l_at.m A.D_l_at.F.kp A.D_l_at.b passE0 (va_Name (v_var (i := 2) rfl (c_free (by decide +kernel))) (va_BinOp (v_op (o_add rfl) (v_int) (v_var (i := 0) rfl (c_vloc (by decide +kernel)))) va_nil))) (va_Name (v_var (i := 0) rfl (c_vloc (by decide +kernel))) va_nil))) va_nil)))) va_nil)))
  (vs_cons (vs_set (i := 6) sc_law.nd rfl (Or.inl lk_law__law_rows) (v_fnT (f_tuple rfl) lk_law_tuple B.tuple bt_tuple (va_ListComp (v_comp rfl (frees_of ["_law_k"] [("_law_way", 5), ("_law_script", 0)] ["_law_script", "_law_cell", "_law_many", "_law_numbers", "_law_unknowns", "_law_way", "_law_rows", "_law_plan", "_law_prices", "_law_other", "_law_some", "_law_k", "_law_pairs_here", "_law_found", "_law_one"] (by decide +kernel)) (visC s_law (by decide +kernel)) (by decide +kernel) rfl (by decide +kernel) (fun y hy => PySem.mem_of_lookup hy) rfl (tg_name 0) (keeps_name (by decide)) noOw_name (vi_rng lk_law_range B.range (va_BinOp (v_modC (v_divC (v_var (i := 1) rfl (Or.inl lk_law__law_cell)))) va_nil)) (fun cl C s H fp pins => pg_name (i := 0) (show (["_law_k", "_law_way", "_law_script"] : List Str).Nodup by decide +kernel) rfl (Or.inl (c_loc (by decide +kernel))) (.inr (c_loc (by decide +kernel)))) (fun cl C s H fp pins => vif_nil) (fun cl C s H fp pins => v_call rfl (ok_l_row A B) (hr.mono (by decide)) (c_gl (by decide +kernel)) A.D_l_row.m A.D_l_row.F.kp A.D_l_row.b passE0 (va_Call (v_call rfl (ok_l_at A B) (hr.mono (by decide)) (c_gl (by decide +kernel)) A.D_l_at.m A.D_l_at.F.kp A.D_l_at.b passE0 (va_Name (v_var (i := 2) rfl (c_free (by decide +kernel))) (va_BinOp (v_op (o_add rfl) (v_int) (v_var (i := 0) rfl (c_vloc (by decide +kernel)))) va_nil))) (va_Name (v_var (i := 0) rfl (c_vloc (by decide +kernel))) (va_Name (v_var (i := 1) rfl (c_free (by decide +kernel))) va_nil))))) va_nil)))
  (vs_cons (vs_set (i := 7) sc_law.nd rfl (Or.inl lk_law__law_plan) (v_call rfl (ok_l_alike A B) (hr.mono (by decide)) lk_law__law_alike A.D_l_alike.m A.D_l_alike.F.kp A.D_l_alike.b passes_fn (va_Tuple (v_tup (va_Name (v_var (i := 4) rfl (Or.inr (Or.inl lk_law__law_unknowns))) (va_Name (v_var (i := 6) rfl (Or.inl lk_law__law_rows)) (va_Call (v_call rfl (ok_l_goal A B) (hr.mono (by decide)) lk_law__law_goal A.D_l_goal.m A.D_l_goal.F.kp A.D_l_goal.b passes_fn (va_Name (v_var (i := 1) rfl (Or.inl lk_law__law_cell)) (va_Name (v_var (i := 5) rfl (Or.inr (Or.inl lk_law__law_way))) va_nil))) va_nil)))) (va_Call (v_call rfl (ok_l_mixed A B) (hr.mono (by decide)) lk_law__law_mixed A.D_l_mixed.m A.D_l_mixed.F.kp A.D_l_mixed.b passes_fn (va_Name (v_var (i := 1) rfl (Or.inl lk_law__law_cell)) (va_Constant (v_int) va_nil))) va_nil))))
  (vs_cons (vs_set (i := 8) sc_law.nd rfl (Or.inl lk_law__law_prices) (v_fnT (f_tuple rfl) lk_law_tuple B.tuple bt_tuple (va_ListComp (v_comp rfl (frees_of ["_law_k", "_law_row_here"] [("_law_script", 0)] ["_law_script", "_law_cell", "_law_many", "_law_numbers", "_law_unknowns", "_law_way", "_law_rows", "_law_plan", "_law_prices", "_law_other", "_law_some", "_law_k", "_law_pairs_here", "_law_found", "_law_one"] (by decide +kernel)) (visC s_law (by decide +kernel)) (by decide +kernel) rfl (by decide +kernel) (fun y hy => PySem.mem_of_lookup hy) rfl (tg_tup rfl) (keeps_tup (by decide)) noOw_tup (vi_enumT rfl lk_law_enumerate B.enumerate (va_Name (v_var (i := 6) rfl (Or.inl lk_law__law_rows)) va_nil)) (fun cl C s H fp pins => pg_tupK rfl rfl (vgs_cons (i := 0) (show (["_law_k", "_law_row_here", "_law_script"] : List Str).Nodup by decide +kernel) rfl (Or.inl (c_loc (by decide +kernel))) (.inr (c_loc (by decide +kernel))) (vgs_cons (i := 1) (show (["_law_k", "_law_row_here", "_law_script"] : List Str).Nodup by decide +kernel) rfl (Or.inl (c_loc (by decide +kernel))) (.inr (c_loc (by decide +kernel))) (vgs_nil)))) (fun cl C s H fp pins => vif_nil) (fun cl C s H fp pins => v_call rfl (ok_l_price A B) (hr.mono (by decide)) (c_gl (by decide +kernel)) A.D_l_price.m A.D_l_price.F.kp A.D_l_price.b passE0 (va_Name (v_var (i := 1) rfl (c_vloc (by decide +kernel))) (va_Call (v_call rfl (ok_l_mixed A B) (hr.mono (by decide)) (c_gl (by decide +kernel)) A.D_l_mixed.m A.D_l_mixed.F.kp A.D_l_mixed.b passE0 (va_Call (v_call rfl (ok_l_at A B) (hr.mono (by decide)) (c_gl (by decide +kernel)) A.D_l_at.m A.D_l_at.F.kp A.D_l_at.b passE0 (va_Name (v_var (i := 2) rfl (c_free (by decide +kernel))) (va_BinOp (v_op (o_add rfl) (v_int) (v_var (i := 0) rfl (c_vloc (by decide +kernel)))) va_nil))) (va_Name (v_var (i := 0) rfl (c_vloc (by decide +kernel))) va_nil))) va_nil)))) va_nil)))
  (vs_cons (vs_set (i := 9) sc_law.nd rfl (Or.inl lk_law__law_other) (v_fnT (f_tuple rfl) lk_law_tuple B.tuple bt_tuple (va_ListComp (v_comp rfl (frees_of ["_law_k", "_law_row_here"] [("_law_script", 0)] ["_law_script", "_law_cell", "_law_many", "_law_numbers", "_law_unknowns", "_law_way", "_law_rows", "_law_plan", "_law_prices", "_law_other", "_law_some", "_law_k", "_law_pairs_here", "_law_found", "_law_one"] (by decide +kernel)) (visC s_law (by decide +kernel)) (by decide +kernel) rfl (by decide +kernel) (fun y hy => PySem.mem_of_lookup hy) rfl (tg_tup rfl) (keeps_tup (by decide)) noOw_tup (vi_enumT rfl lk_law_enumerate B.enumerate (va_Name (v_var (i := 6) rfl (Or.inl lk_law__law_rows)) va_nil)) (fun cl C s H fp pins => pg_tupK rfl rfl (vgs_cons (i := 0) (show (["_law_k", "_law_row_here", "_law_script"] : List Str).Nodup by decide +kernel) rfl (Or.inl (c_loc (by decide +kernel))) (.inr (c_loc (by decide +kernel))) (vgs_cons (i := 1) (show (["_law_k", "_law_row_here", "_law_script"] : List Str).Nodup by decide +kernel) rfl (Or.inl (c_loc (by decide +kernel))) (.inr (c_loc (by decide +kernel))) (vgs_nil)))) (fun cl C s H fp pins => vif_nil) (fun cl C s H fp pins => v_call rfl (ok_l_price A B) (hr.mono (by decide)) (c_gl (by decide +kernel)) A.D_l_price.m A.D_l_price.F.kp A.D_l_price.b passE0 (va_Name (v_var (i := 1) rfl (c_vloc (by decide +kernel))) (va_Call (v_call rfl (ok_l_mixed A B) (hr.mono (by decide)) (c_gl (by decide +kernel)) A.D_l_mixed.m A.D_l_mixed.F.kp A.D_l_mixed.b passE0 (va_Call (v_call rfl (ok_l_at A B) (hr.mono (by decide)) (c_gl (by decide +kernel)) A.D_l_at.m A.D_l_at.F.kp A.D_l_at.b passE0 (va_Name (v_var (i := 2) rfl (c_free (by decide +kernel))) (va_Constant (v_int) va_nil))) (va_Name (v_var (i := 0) rfl (c_vloc (by decide +kernel))) va_nil))) va_nil)))) va_nil)))
  (vs_cons (vs_if (vt_cmp (o_ne rfl hu) (v_call rfl (ok_turned A B) (hr.mono (by decide)) lk_law_turned A.D_turned.m A.D_turned.F.kp A.D_turned.b passes_fn (va_Name (v_var (i := 7) rfl (Or.inl lk_law__law_plan)) va_nil)) (v_call rfl (ok_l_turned A B) (hr.mono (by decide)) lk_law__law_turned A.D_l_turned.m A.D_l_turned.F.kp A.D_l_turned.b passes_fn (va_Name (v_var (i := 7) rfl (Or.inl lk_law__law_plan)) va_nil)) (nomark _)) (vs_one (vs_ret (v_bl))) (vs_nil))
  (vs_cons (vs_set (i := 10) sc_law.nd rfl (Or.inl lk_law__law_some) (v_lst (va_Call (v_call rfl (ok_l_turned A B) (hr.mono (by decide)) lk_law__law_turned A.D_l_turned.m A.D_l_turned.F.kp A.D_l_turned.b passes_fn (va_Name (v_var (i := 7) rfl (Or.inl lk_law__law_plan)) va_nil)) (va_Tuple (v_tup va_nil) (va_Call (v_call rfl (ok_l_pairs A B) (hr.mono (by decide)) lk_law__law_pairs A.D_l_pairs.m A.D_l_pairs.F.kp A.D_l_pairs.b passes_fn (va_Call (v_call rfl (ok_l_mixed A B) (hr.mono (by decide)) lk_law__law_mixed A.D_l_mixed.m A.D_l_mixed.F.kp A.D_l_mixed.b passes_fn (va_Name (v_var (i := 1) rfl (Or.inl lk_law__law_cell)) (va_Constant (v_int) va_nil))) (va_Name (v_var (i := 2) rfl (Or.inl lk_law__law_many)) va_nil))) va_nil)))))
  (vs_cons (vs_for pown_fn rfl (vi_rng lk_law_range B.range (va_Constant (v_int) va_nil)) (pg_name (i := 11) sc_law.nd rfl (Or.inl lk_law__law_k) (.inl rfl)) (tg_name 11) (vs_cons (vs_set (i := 12) sc_law.nd rfl (Or.inl lk_law__law_pairs_here) (v_ix (o_ix rfl) (v_var (i := 10) rfl (Or.inl lk_law__law_some)) (v_modC (v_op (o_add rfl) (v_divC (v_var (i := 1) rfl (Or.inl lk_law__law_cell))) (v_op o_mul (v_var (i := 11) rfl (Or.inl lk_law__law_k)) (v_ix (o_ix rfl) (v_lst (va_Constant (v_int) (va_Constant (v_int) va_nil))) (v_modC (v_divC (v_var (i := 1) rfl (Or.inl lk_law__law_cell)))) (fun _ _ => rfl))))) (fun _ _ => rfl)))
  (vs_cons (vs_if (vt_cmp (o_eq rfl hu) (v_var (i := 11) rfl (Or.inl lk_law__law_k)) (v_modC (v_divC (v_var (i := 1) rfl (Or.inl lk_law__law_cell)))) (nomark _)) (vs_cons (vs_set (i := 13) sc_law.nd rfl (Or.inl lk_law__law_found) (v_call rfl (ok_leads_on A B) (hr.mono (by decide)) lk_law_leads_on A.D_leads_on.m A.D_leads_on.F.kp A.D_leads_on.b passes_fn (va_Name (v_var (i := 7) rfl (Or.inl lk_law__law_plan)) (va_Name (v_var (i := 5) rfl (Or.inr (Or.inl lk_law__law_way))) va_nil))))
  (vs_one (vs_if (PW.pt (vw_or (vt_not (vt_tru rfl (v_fnB (f_isi rfl) lk_law_isinstance B.isinstance bt_isinstance (va_Name (v_var (i := 13) rfl (Or.inl lk_law__law_found)) (va_Name (v_ty lk_law_bool B.bool bt_bool) va_nil))))) (vw_or1 (vt_cmp (o_ne rfl hu) (v_var (i := 13) rfl (Or.inl lk_law__law_found)) (v_call rfl (ok_l_leads_on A B) (hr.mono (by decide)) lk_law__law_leads_on A.D_l_leads_on.m A.D_l_leads_on.F.kp A.D_l_leads_on.b passes_fn (va_Name (v_var (i := 7) rfl (Or.inl lk_law__law_plan)) (va_Name (v_var (i := 5) rfl (Or.inr (Or.inl lk_law__law_way))) va_nil))) (nomark _))))) (vs_one (vs_ret (v_bl))) (vs_nil)))) (vs_nil))
  (vs_one (vs_for pown_fn rfl (vi_seq rfl (v_lst (va_Name (v_var (i := 8) rfl (Or.inl lk_law__law_prices)) (va_Name (v_var (i := 9) rfl (Or.inl lk_law__law_other)) (va_Name (v_var (i := 8) rfl (Or.inl lk_law__law_prices)) va_nil))))) (pg_name (i := 14) sc_law.nd rfl (Or.inl lk_law__law_one) (.inl rfl)) (tg_name 14) (vs_one (vs_if (vt_not (vt_tru rfl (v_call rfl (ok_l_floor_good A B) (hr.mono (by decide)) lk_law__law_floor_good A.D_l_floor_good.m A.D_l_floor_good.F.kp A.D_l_floor_good.b passes_fn (va_Name (v_var (i := 7) rfl (Or.inl lk_law__law_plan)) (va_Name (v_var (i := 12) rfl (Or.inl lk_law__law_pairs_here)) (va_Name (v_var (i := 14) rfl (Or.inl lk_law__law_one)) va_nil)))))) (vs_one (vs_ret (v_bl))) (vs_nil))))))))
  (vs_one (vs_ret (v_cmp o_is (v_call rfl (ok_leads_on A B) (hr.mono (by decide)) lk_law_leads_on A.D_leads_on.m A.D_leads_on.F.kp A.D_leads_on.b passes_fn (va_Name (v_var (i := 7) rfl (Or.inl lk_law__law_plan)) (va_Call (v_fnT (f_tuple rfl) lk_law_tuple B.tuple bt_tuple (va_ListComp (v_comp rfl (frees_of ["_law_unknown_here"] [] ["_law_script", "_law_cell", "_law_many", "_law_numbers", "_law_unknowns", "_law_way", "_law_rows", "_law_plan", "_law_prices", "_law_other", "_law_some", "_law_k", "_law_pairs_here", "_law_found", "_law_one"] (by decide +kernel)) (noFree rfl) (by decide +kernel) rfl (by decide +kernel) (fun y hy => PySem.mem_of_lookup hy) rfl (tg_name 0) (keeps_name (by decide)) noOw_name (vi_seq rfl (v_var (i := 4) rfl (Or.inr (Or.inl lk_law__law_unknowns)))) (fun cl C s H fp pins => pg_name (i := 0) (show (["_law_unknown_here"] : List Str).Nodup by decide +kernel) rfl (Or.inl (c_loc (by decide +kernel))) (.inr (c_loc (by decide +kernel)))) (fun cl C s H fp pins => vif_nil) (fun cl C s H fp pins => v_tup (va_Constant (v_int) (va_Constant (v_int) va_nil)))) va_nil)) va_nil))) (v_bl) (nomark _))))))))))))))))
end
end Pw
set_option Elab.async false
set_option linter.all false
set_option maxRecDepth 100000
set_option maxHeartbeats 4000000
namespace Pw
open PySem L2
def spLaw (K : PySem.W.Frag) : Sp := fun vs H Q _ => ∃ (a : Addr) (ns : List Int), vs = [.ref a] /\ SqL K H a (ns.map V.int) /\ ns.length <= 63 /\ (∀ i ∈ ns, Few i) /\ ∀ H', Q (.bl true) H'
theorem uni1 {H : Hp} : Uni H (three H noH noH) := ⟨fun b o => ⟨fun h => ⟨0, h⟩, fun ⟨i, h⟩ => by
  match i, h with
  | 0, h => exact h
  | 1, h => cases h
  | 2, h => cases h
  | _ + 3, h => cases h⟩, fun i j b n => by
  match i, j, n with
  | 0, 0, n => exact absurd rfl n
  | 0, 1, _ => exact .inr rfl
  | 0, 2, _ => exact .inr rfl
  | 0, _ + 3, _ => exact .inr rfl
  | 1, _, _ => exact .inl rfl
  | 2, _, _ => exact .inl rfl
  | _ + 3, _, _ => exact .inl rfl⟩
theorem to_law {P : Program} {w : World} {K : PySem.W.Frag} {mg : Str -> Option Value} {base : Heap} {k : Nat} {f : Addr} {fd : FuncData} (F : FnOk P w K mg base (CXF P w) k f fd ["_law_script"] (spV K C_law)) : FnOk P w K mg base CX0 k f fd ["_law_script"] (spLaw K) :=
  F.to0.imp fun vs H Q E ⟨a, ns, e, hS, hl, few, q⟩ => by
    subst e
    refine ⟨three H noH noH, [.scr (ns.map Tv.int)], fun r => r = .ok (.va (.bl true)), uni1, three_ge2, .cons (rep_scr.mpr ⟨a, _, rfl, hS, RepL.ints⟩) .nil, ⟨ns, rfl, rfl⟩, fun r hr v p' H' _ _ _ hs => ?_, fun c hc => ?_⟩
    · cases hr
      obtain ⟨_, t, e, hr⟩ := hs
      cases e
      rw [rep_bl.mp hr]
      exact q H'
    · cases hc
def fF (n : String) (s : Stmt) (d : Value) (m : String) (t c : Nat) : FuncData := PySem.W.fnOf (.ofString n) (.ofString n) (defArgs s) (defBody s) (defScope s) d .none .none (.str (.ofString m) t) none (.ref c) .none
def fO (n : String) (s : Stmt) (d : Value) (m : String) (t c : Nat) : Obj := ⟨.type "function", none, .func (fF n s d m t c), #[]⟩
def cO (n q : String) (t : Nat) (l a : Int) (r : Nat) (A B : Value) (c e : Nat) : Obj := { cls := .type "code", data := .fields #[.str (.ofString n) t, .str (.ofString q) (t + 1), .str (.ofString "/claim/cut.py") (t + 2), .int l 0, .int a 0, .int 0 0, .int 0 0, .int 3 0, .ref r, .bool true, .int 181 0, .ref (r + 1), .none, A, B, .ref c, .int ((e : Int) - 1) 0, .int l 0, .str (.ofString "/claim/cut.py") e] }
def dO (n : Nat) (P : Params) (l : List (String × Nat × Value)) : Obj := { cls := .type "dict", data := .dict (l.map fun e => ⟨PyData.keyHash P (.ofString e.1), .str (.ofString e.1) e.2.1, e.2.2⟩).toArray n }
def tO (l : List Value) : Obj := { cls := .type "tuple", data := .seq l.toArray }
def KP (P : Params) : PySem.W.Frag :=
  (nat_lit 3, dO 54 P [("__name__", 165, (.str "law_planwell_k17_floors_and_ways_on" 393)), ("__doc__", 166, .none), ("__package__", 167, .none), ("__loader__", 168, (.builtin "__main__.__loader__#opaque")), ("__spec__", 169, .none), ("__annotations__", 170, (.ref 6)), ("__builtins__", 171, (.ref 4)), ("__file__", 173, (.str "/claim/cut.py" 172)), ("__cached__", 174, .none), ("PlanError", 206, (.ref 24)), ("BadFraction", 222, (.ref 37)), ("NOUGHT", 227, (.ref 40)), ("greatest_divisor", 236, (.ref 47)), ("fraction", 246, (.ref 55)), ("plus", 254, (.ref 62)), ("minus", 262, (.ref 69)), ("times", 270, (.ref 76)), ("less", 278, (.ref 83)), ("sign", 285, (.ref 90)), ("plain", 294, (.ref 97)), ("pairs_of", 300, (.ref 102)), ("added", 311, (.ref 109)), ("scaled", 317, (.ref 114)), ("worth", 328, (.ref 121)), ("turned", 336, (.ref 126)), ("floor", 353, (.ref 133)), ("leads_on", 359, (.ref 138)), ("pairs_at", 367, (.ref 145)), ("stands", 376, (.ref 152)), ("goes_with", 384, (.ref 159)), ("end_for", 392, (.ref 166)), ("_law_at", 402, (.ref 173)), ("_law_mixed", 411, (.ref 180)), ("_law_lowest", 421, (.ref 187)), ("_law_fraction", 430, (.ref 194)), ("_law_plus", 438, (.ref 201)), ("_law_times", 446, (.ref 208)), ("_law_order", 454, (.ref 215)), ("_law_is_fraction", 460, (.ref 220)), ("_law_same", 468, (.ref 227)), ("_law_worth", 480, (.ref 234)), ("_law_unknown", 497, (.ref 241)), ("_law_pairs", 509, (.ref 248)), ("_law_stands", 519, (.ref 255)), ("_law_turned", 525, (.ref 260)), ("_law_floor", 531, (.ref 265)), ("_law_leads_on", 542, (.ref 272)), ("_law_step", 551, (.ref 279)), ("_law_row", 564, (.ref 286)), ("_law_price", 573, (.ref 293)), ("_law_goal", 583, (.ref 300)), ("_law_floor_good", 594, (.ref 307)), ("_law_alike", 600, (.ref 312)), ("law", 606, (.ref 317))]) ::
  (nat_lit 23, dO 3 P [("__module__", 196, (.str "planwell.errors" 187)), ("__firstlineno__", 200, (.int 2 199)), ("__static_attributes__", 201, (.ref 22)), ("__weakref__", 203, (.ref 25)), ("__doc__", 204, .none)]) ::
  (nat_lit 24, ({ cls := Value.type "type", data := Data.cls { name := Str.ofString "PlanError", bases := [Value.type "ValueError"], mro := [Value.ref 24, Value.type "ValueError", Value.type "Exception", Value.type "BaseException", Value.type "object"], ns := 23, qualname := Str.ofString "PlanError", subclasses := [Value.ref 37] }, slots := #[some (Value.ref 15), none, some (Value.str (Str.ofString "PlanError") 189), some (Value.str (Str.ofString "PlanError") 197), some (Value.builtin "ValueError.__new__"), some (Value.bool Bool.true)] } : Obj)) ::
  (nat_lit 36, dO 2 P [("__module__", 214, (.str "planwell.errors" 187)), ("__firstlineno__", 218, (.int 4 217)), ("__static_attributes__", 219, (.ref 35)), ("__doc__", 220, .none)]) ::
  (nat_lit 37, ({ cls := Value.type "type", data := Data.cls { name := Str.ofString "BadFraction", bases := [Value.ref 24], mro := [Value.ref 37, Value.ref 24, Value.type "ValueError", Value.type "Exception", Value.type "BaseException", Value.type "object"], ns := 36, qualname := Str.ofString "BadFraction" }, slots := #[some (Value.ref 28), none, some (Value.str (Str.ofString "BadFraction") 207), some (Value.str (Str.ofString "BadFraction") 215), some (Value.builtin "ValueError.__new__"), some (Value.bool Bool.true)] } : Obj)) ::
  (nat_lit 40, tO [(.int 0 225), (.int 1 226)]) ::
  (nat_lit 46, cO "greatest_divisor" "greatest_divisor" 228 8 2 41 (.ref 43) (.ref 44) 45 235) ::
  (nat_lit 47, fO "greatest_divisor" (top 5) .none "planwell.fractions" 223 46) ::
  (nat_lit 48, tO [(.int 1 237)]) ::
  (nat_lit 54, cO "fraction" "fraction" 238 14 2 49 (.ref 51) (.ref 52) 53 245) ::
  (nat_lit 55, fO "fraction" (top 6) (.ref 48) "planwell.fractions" 223 54) ::
  (nat_lit 61, cO "plus" "plus" 247 21 2 56 (.ref 58) (.ref 59) 60 253) ::
  (nat_lit 62, fO "plus" (top 7) .none "planwell.fractions" 223 61) ::
  (nat_lit 68, cO "minus" "minus" 255 23 2 63 (.ref 65) (.ref 66) 67 261) ::
  (nat_lit 69, fO "minus" (top 8) .none "planwell.fractions" 223 68) ::
  (nat_lit 75, cO "times" "times" 263 25 2 70 (.ref 72) (.ref 73) 74 269) ::
  (nat_lit 76, fO "times" (top 9) .none "planwell.fractions" 223 75) ::
  (nat_lit 82, cO "less" "less" 271 27 2 77 (.ref 79) (.ref 80) 81 277) ::
  (nat_lit 83, fO "less" (top 10) .none "planwell.fractions" 223 82) ::
  (nat_lit 89, cO "sign" "sign" 279 29 1 84 (.ref 86) (.ref 87) 88 284) ::
  (nat_lit 90, fO "sign" (top 11) .none "planwell.fractions" 223 89) ::
  (nat_lit 96, cO "plain" "plain" 288 36 1 91 (.ref 93) (.ref 94) 95 293) ::
  (nat_lit 97, fO "plain" (top 13) .none "planwell.sums" 286 96) ::
  (nat_lit 101, cO "pairs_of" "pairs_of" 295 38 1 98 .none .none 100 299) ::
  (nat_lit 102, fO "pairs_of" (top 14) .none "planwell.sums" 286 101) ::
  (nat_lit 108, cO "added" "added" 301 40 2 103 (.ref 105) (.ref 106) 107 310) ::
  (nat_lit 109, fO "added" (top 15) .none "planwell.sums" 286 108) ::
  (nat_lit 113, cO "scaled" "scaled" 312 45 2 110 .none .none 112 316) ::
  (nat_lit 114, fO "scaled" (top 16) .none "planwell.sums" 286 113) ::
  (nat_lit 120, cO "worth" "worth" 318 49 2 115 (.ref 117) (.ref 118) 119 327) ::
  (nat_lit 121, fO "worth" (top 17) .none "planwell.sums" 286 120) ::
  (nat_lit 125, cO "turned" "turned" 331 55 1 122 .none .none 124 335) ::
  (nat_lit 126, fO "turned" (top 19) .none "planwell.shows" 329 125) ::
  (nat_lit 132, cO "floor" "floor" 337 61 3 127 (.ref 129) (.ref 130) 131 352) ::
  (nat_lit 133, fO "floor" (top 20) .none "planwell.shows" 329 132) ::
  (nat_lit 137, cO "leads_on" "leads_on" 354 78 2 134 .none .none 136 358) ::
  (nat_lit 138, fO "leads_on" (top 21) .none "planwell.shows" 329 137) ::
  (nat_lit 144, cO "pairs_at" "pairs_at" 360 87 2 139 (.ref 141) (.ref 142) 143 366) ::
  (nat_lit 145, fO "pairs_at" (top 22) .none "planwell.shows" 329 144) ::
  (nat_lit 151, cO "stands" "stands" 368 89 3 146 (.ref 148) (.ref 149) 150 375) ::
  (nat_lit 152, fO "stands" (top 23) .none "planwell.shows" 329 151) ::
  (nat_lit 158, cO "goes_with" "goes_with" 377 95 2 153 (.ref 155) (.ref 156) 157 383) ::
  (nat_lit 159, fO "goes_with" (top 24) .none "planwell.shows" 329 158) ::
  (nat_lit 165, cO "end_for" "end_for" 385 101 2 160 (.ref 162) (.ref 163) 164 391) ::
  (nat_lit 166, fO "end_for" (top 25) .none "planwell.shows" 329 165) ::
  (nat_lit 172, cO "_law_at" "_law_at" 395 106 2 167 (.ref 169) (.ref 170) 171 401) ::
  (nat_lit 173, fO "_law_at" (top 27) .none "law_planwell_k17_floors_and_ways_on" 393 172) ::
  (nat_lit 179, cO "_law_mixed" "_law_mixed" 403 110 2 174 (.ref 176) (.ref 177) 178 410) ::
  (nat_lit 180, fO "_law_mixed" (top 28) .none "law_planwell_k17_floors_and_ways_on" 393 179) ::
  (nat_lit 186, cO "_law_lowest" "_law_lowest" 412 113 2 181 (.ref 183) (.ref 184) 185 420) ::
  (nat_lit 187, fO "_law_lowest" (top 29) .none "law_planwell_k17_floors_and_ways_on" 393 186) ::
  (nat_lit 193, cO "_law_fraction" "_law_fraction" 422 118 1 188 (.ref 190) (.ref 191) 192 429) ::
  (nat_lit 194, fO "_law_fraction" (top 30) .none "law_planwell_k17_floors_and_ways_on" 393 193) ::
  (nat_lit 200, cO "_law_plus" "_law_plus" 431 122 2 195 (.ref 197) (.ref 198) 199 437) ::
  (nat_lit 201, fO "_law_plus" (top 31) .none "law_planwell_k17_floors_and_ways_on" 393 200) ::
  (nat_lit 207, cO "_law_times" "_law_times" 439 124 2 202 (.ref 204) (.ref 205) 206 445) ::
  (nat_lit 208, fO "_law_times" (top 32) .none "law_planwell_k17_floors_and_ways_on" 393 207) ::
  (nat_lit 214, cO "_law_order" "_law_order" 447 126 2 209 (.ref 211) (.ref 212) 213 453) ::
  (nat_lit 215, fO "_law_order" (top 33) .none "law_planwell_k17_floors_and_ways_on" 393 214) ::
  (nat_lit 219, cO "_law_is_fraction" "_law_is_fraction" 455 128 1 216 .none .none 218 459) ::
  (nat_lit 220, fO "_law_is_fraction" (top 34) .none "law_planwell_k17_floors_and_ways_on" 393 219) ::
  (nat_lit 226, cO "_law_same" "_law_same" 461 134 2 221 (.ref 223) (.ref 224) 225 467) ::
  (nat_lit 227, fO "_law_same" (top 35) .none "law_planwell_k17_floors_and_ways_on" 393 226) ::
  (nat_lit 233, cO "_law_worth" "_law_worth" 469 136 3 228 (.ref 230) (.ref 231) 232 479) ::
  (nat_lit 234, fO "_law_worth" (top 36) .none "law_planwell_k17_floors_and_ways_on" 393 233) ::
  (nat_lit 240, cO "_law_unknown" "_law_unknown" 481 141 2 235 (.ref 237) (.ref 238) 239 496) ::
  (nat_lit 241, fO "_law_unknown" (top 37) .none "law_planwell_k17_floors_and_ways_on" 393 240) ::
  (nat_lit 247, cO "_law_pairs" "_law_pairs" 498 151 2 242 (.ref 244) (.ref 245) 246 508) ::
  (nat_lit 248, fO "_law_pairs" (top 38) .none "law_planwell_k17_floors_and_ways_on" 393 247) ::
  (nat_lit 254, cO "_law_stands" "_law_stands" 510 159 3 249 (.ref 251) (.ref 252) 253 518) ::
  (nat_lit 255, fO "_law_stands" (top 39) .none "law_planwell_k17_floors_and_ways_on" 393 254) ::
  (nat_lit 259, cO "_law_turned" "_law_turned" 520 166 1 256 .none .none 258 524) ::
  (nat_lit 260, fO "_law_turned" (top 40) .none "law_planwell_k17_floors_and_ways_on" 393 259) ::
  (nat_lit 264, cO "_law_floor" "_law_floor" 526 169 3 261 .none .none 263 530) ::
  (nat_lit 265, fO "_law_floor" (top 41) .none "law_planwell_k17_floors_and_ways_on" 393 264) ::
  (nat_lit 271, cO "_law_leads_on" "_law_leads_on" 532 187 2 266 (.ref 268) (.ref 269) 270 541) ::
  (nat_lit 272, fO "_law_leads_on" (top 42) .none "law_planwell_k17_floors_and_ways_on" 393 271) ::
  (nat_lit 278, cO "_law_step" "_law_step" 543 195 2 273 (.ref 275) (.ref 276) 277 550) ::
  (nat_lit 279, fO "_law_step" (top 43) .none "law_planwell_k17_floors_and_ways_on" 393 278) ::
  (nat_lit 285, cO "_law_row" "_law_row" 552 206 3 280 (.ref 282) (.ref 283) 284 563) ::
  (nat_lit 286, fO "_law_row" (top 44) .none "law_planwell_k17_floors_and_ways_on" 393 285) ::
  (nat_lit 292, cO "_law_price" "_law_price" 565 214 2 287 (.ref 289) (.ref 290) 291 572) ::
  (nat_lit 293, fO "_law_price" (top 45) .none "law_planwell_k17_floors_and_ways_on" 393 292) ::
  (nat_lit 299, cO "_law_goal" "_law_goal" 574 219 2 294 (.ref 296) (.ref 297) 298 582) ::
  (nat_lit 300, fO "_law_goal" (top 46) .none "law_planwell_k17_floors_and_ways_on" 393 299) ::
  (nat_lit 306, cO "_law_floor_good" "_law_floor_good" 584 225 3 301 (.ref 303) (.ref 304) 305 593) ::
  (nat_lit 307, fO "_law_floor_good" (top 47) .none "law_planwell_k17_floors_and_ways_on" 393 306) ::
  (nat_lit 311, cO "_law_alike" "_law_alike" 595 231 2 308 .none .none 310 599) ::
  (nat_lit 312, fO "_law_alike" (top 48) .none "law_planwell_k17_floors_and_ways_on" 393 311) ::
  (nat_lit 316, cO "law" "law" 601 237 1 313 .none .none 315 605) ::
  (nat_lit 317, fO "law" (top 49) .none "law_planwell_k17_floors_and_ways_on" 393 316) ::
  []
def posOf (s : Stmt) : Pos := match s with | .FunctionDef _ _ _ _ _ _ _ _ _ p => p | _ => ⟨0, 0, 0, 0⟩
def KA : List Addr := [3, 23, 24, 36, 37, 40, 46, 47, 48, 54, 55, 61, 62, 68, 69, 75, 76, 82, 83, 89, 90, 96, 97, 101, 102, 108, 109, 113, 114, 120, 121, 125, 126, 132, 133, 137, 138, 144, 145, 151, 152, 158, 159, 165, 166, 172, 173, 179, 180, 186, 187, 193, 194, 200, 201, 207, 208, 214, 215, 219, 220, 226, 227, 233, 234, 240, 241, 247, 248, 254, 255, 259, 260, 264, 265, 271, 272, 278, 279, 285, 286, 292, 293, 299, 300, 306, 307, 311, 312, 316, 317]
def qView : Program := PySem.W.view PySem.Challenge.pw_planwell_k17_floors_and_ways_on [1, 2, 4, 5, 7, 8, 9, 10, 11, 13, 14, 15, 16, 17, 19, 20, 21, 22, 23, 24, 25, 27, 28, 29, 30, 31, 32, 33, 34, 35, 36, 37, 38, 39, 40, 41, 42, 43, 44, 45, 46, 47, 48, 49]
section
variable {P : Params} {h : Heap} {mg : Str -> Option Value}
theorem dat (X : (KP P).In h) (G : h.Ns mainGlobals mg) (n : String) (s : Stmt) (m : String) (t f c : Nat) (ps : List Str) (l : (KP P).lookup f = some (fO n s .none m t c)) (q : PySem.W.codeIn (KP P) (.ref c) (.ofString n) = true)
    (a : PySem.W.nsIn (KP P) mainGlobals (.ofString n) = some (some (.ref f))) (b : ∀ us : List Value, us.length = ps.length -> bindArgs (fF n s .none m t c) ⟨us, []⟩ = pure (ps.zip us)) : DefAt (KP P) mg (.ofString n) s f (fF n s .none m t c) ps :=
  ⟨fun_mk (st := s) l q (by unfold PySem.W.keepIn; dsimp only; rw [l]; rfl), .all b, PySem.W.mg_of X G a⟩
theorem by1 {Q : List Value -> Prop} (h : ∀ a, Q [a]) : ∀ us : List Value, us.length = 1 -> Q us | [a], _ => h a
theorem by2 {Q : List Value -> Prop} (h : ∀ a b, Q [a, b]) : ∀ us : List Value, us.length = 2 -> Q us | [a, b], _ => h a b
theorem by3 {Q : List Value -> Prop} (h : ∀ a b c, Q [a, b, c]) : ∀ us : List Value, us.length = 3 -> Q us | [a, b, c], _ => h a b c
theorem all_mk {l : PySem.W.OpenLaw} {w : World} {fa : Addr} (X : (KP P).In h) (G : h.Ns mainGlobals mg) (hfa : mg "law" = some (.ref fa)) :
    ∃ fd : FuncData, (∀ (s : Shared) (v : Value), BindsTo s fd ⟨[v], []⟩ [("_law_script", v)]) /\ ∀ base : Heap, (KP P).In base -> base.Ns mainGlobals mg -> FnOk l.prog w (KP P) mg base CX0 8 fa fd ["_law_script"] (spLaw (KP P)) := by
  have M := fun {x : Str} {v : Value} (q : PySem.W.nsIn (KP P) mainGlobals x = some (some v)) => PySem.W.mg_of X G q
  have Z := fun {x : Str} (q : PySem.W.nsIn (KP P) mainGlobals x = some none) => PySem.W.mg_none_of X G q
  have e := hfa.symm.trans (M (v := .ref 317) (by kernel_rfl))
  cases e
  have B : Blt mg := ⟨Z (by kernel_rfl), Z (by kernel_rfl), Z (by kernel_rfl), Z (by kernel_rfl), Z (by kernel_rfl), Z (by kernel_rfl), Z (by kernel_rfl), Z (by kernel_rfl), Z (by kernel_rfl), Z (by kernel_rfl), Z (by kernel_rfl), Z (by kernel_rfl), Z (by kernel_rfl), Z (by kernel_rfl), Z (by kernel_rfl)⟩
  have D1 := dat X G "greatest_divisor" s_greatest_divisor "planwell.fractions" 223 47 46 ["one", "other"] (by kernel_rfl) (by kernel_rfl) (by kernel_rfl) (by2 fun _ _ => rfl)
  have l2 : (KP P).lookup 55 = some (fO "fraction" s_fraction (.ref 48) "planwell.fractions" 223 54) := by kernel_rfl
  have dl : (KP P).lookup 48 = some (tO [.int 1 237]) := by kernel_rfl
  have D2 : DefD (KP P) mg "fraction" s_fraction (.ref 48) 55 _ ["top", "bottom"] [.int 1 237] := ⟨funD_mk (st := s_fraction) l2 (by kernel_rfl) (by kernel_rfl), (fun s us KX hl => by
      obtain ⟨u, v, rfl⟩ : ∃ u v, us = [u, v] := by
        rcases us with _ | ⟨u, _ | ⟨v, _ | ⟨z, r⟩⟩⟩ <;> simp at hl
        exact ⟨u, v, rfl⟩
      exact BindsTo.of_defaults rfl (KX _ _ dl) rfl rfl rfl), (fun s us KX hl => by
      obtain ⟨u, rfl⟩ : ∃ u, us = [u] := by
        rcases us with _ | ⟨u, _ | ⟨v, r⟩⟩ <;> simp at hl
        exact ⟨u, rfl⟩
      exact BindsTo.of_defaults rfl (KX _ _ dl) rfl rfl rfl), .cons ⟨237, rfl⟩ .nil, PySem.W.mg_of X G (by kernel_rfl)⟩
  have D3 := dat X G "plus" s_plus "planwell.fractions" 223 62 61 ["one", "other"] (by kernel_rfl) (by kernel_rfl) (by kernel_rfl) (by2 fun _ _ => rfl)
  have D4 := dat X G "minus" s_minus "planwell.fractions" 223 69 68 ["one", "other"] (by kernel_rfl) (by kernel_rfl) (by kernel_rfl) (by2 fun _ _ => rfl)
  have D5 := dat X G "times" s_times "planwell.fractions" 223 76 75 ["one", "other"] (by kernel_rfl) (by kernel_rfl) (by kernel_rfl) (by2 fun _ _ => rfl)
  have D6 := dat X G "less" s_less "planwell.fractions" 223 83 82 ["one", "other"] (by kernel_rfl) (by kernel_rfl) (by kernel_rfl) (by2 fun _ _ => rfl)
  have D7 := dat X G "sign" s_sign "planwell.fractions" 223 90 89 ["one"] (by kernel_rfl) (by kernel_rfl) (by kernel_rfl) (by1 fun _ => rfl)
  have D8 := dat X G "plain" s_plain "planwell.sums" 286 97 96 ["one"] (by kernel_rfl) (by kernel_rfl) (by kernel_rfl) (by1 fun _ => rfl)
  have D9 := dat X G "pairs_of" s_pairs_of "planwell.sums" 286 102 101 ["parts"] (by kernel_rfl) (by kernel_rfl) (by kernel_rfl) (by1 fun _ => rfl)
  have D10 := dat X G "added" s_added "planwell.sums" 286 109 108 ["one", "other"] (by kernel_rfl) (by kernel_rfl) (by kernel_rfl) (by2 fun _ _ => rfl)
  have D11 := dat X G "scaled" s_scaled "planwell.sums" 286 114 113 ["one", "part"] (by kernel_rfl) (by kernel_rfl) (by kernel_rfl) (by2 fun _ _ => rfl)
  have D12 := dat X G "worth" s_worth "planwell.sums" 286 121 120 ["one", "values"] (by kernel_rfl) (by kernel_rfl) (by kernel_rfl) (by2 fun _ _ => rfl)
  have D13 := dat X G "turned" s_turned "planwell.shows" 329 126 125 ["plan"] (by kernel_rfl) (by kernel_rfl) (by kernel_rfl) (by1 fun _ => rfl)
  have D14 := dat X G "floor" s_floor "planwell.shows" 329 133 132 ["plan", "pairs", "prices"] (by kernel_rfl) (by kernel_rfl) (by kernel_rfl) (by3 fun _ _ _ => rfl)
  have D15 := dat X G "leads_on" s_leads_on "planwell.shows" 329 138 137 ["plan", "way"] (by kernel_rfl) (by kernel_rfl) (by kernel_rfl) (by2 fun _ _ => rfl)
  have D16 := dat X G "pairs_at" s_pairs_at "planwell.shows" 329 145 144 ["pairs", "values"] (by kernel_rfl) (by kernel_rfl) (by kernel_rfl) (by2 fun _ _ => rfl)
  have D17 := dat X G "stands" s_stands "planwell.shows" 329 152 151 ["left", "mark", "bound"] (by kernel_rfl) (by kernel_rfl) (by kernel_rfl) (by3 fun _ _ _ => rfl)
  have D18 := dat X G "goes_with" s_goes_with "planwell.shows" 329 159 158 ["price_sign", "mark"] (by kernel_rfl) (by kernel_rfl) (by kernel_rfl) (by2 fun _ _ => rfl)
  have D19 := dat X G "end_for" s_end_for "planwell.shows" 329 166 165 ["unknown", "part"] (by kernel_rfl) (by kernel_rfl) (by kernel_rfl) (by2 fun _ _ => rfl)
  have D20 := dat X G "_law_at" s_l_at "law_planwell_k17_floors_and_ways_on" 393 173 172 ["_law_script", "_law_k"] (by kernel_rfl) (by kernel_rfl) (by kernel_rfl) (by2 fun _ _ => rfl)
  have D21 := dat X G "_law_mixed" s_l_mixed "law_planwell_k17_floors_and_ways_on" 393 180 179 ["_law_cell", "_law_k"] (by kernel_rfl) (by kernel_rfl) (by kernel_rfl) (by2 fun _ _ => rfl)
  have D22 := dat X G "_law_lowest" s_l_lowest "law_planwell_k17_floors_and_ways_on" 393 187 186 ["_law_top", "_law_bottom"] (by kernel_rfl) (by kernel_rfl) (by kernel_rfl) (by2 fun _ _ => rfl)
  have D23 := dat X G "_law_fraction" s_l_fraction "law_planwell_k17_floors_and_ways_on" 393 194 193 ["_law_number"] (by kernel_rfl) (by kernel_rfl) (by kernel_rfl) (by1 fun _ => rfl)
  have D24 := dat X G "_law_plus" s_l_plus "law_planwell_k17_floors_and_ways_on" 393 201 200 ["_law_one", "_law_other"] (by kernel_rfl) (by kernel_rfl) (by kernel_rfl) (by2 fun _ _ => rfl)
  have D25 := dat X G "_law_times" s_l_times "law_planwell_k17_floors_and_ways_on" 393 208 207 ["_law_one", "_law_other"] (by kernel_rfl) (by kernel_rfl) (by kernel_rfl) (by2 fun _ _ => rfl)
  have D26 := dat X G "_law_order" s_l_order "law_planwell_k17_floors_and_ways_on" 393 215 214 ["_law_one", "_law_other"] (by kernel_rfl) (by kernel_rfl) (by kernel_rfl) (by2 fun _ _ => rfl)
  have D27 := dat X G "_law_is_fraction" s_l_is_fraction "law_planwell_k17_floors_and_ways_on" 393 220 219 ["_law_found"] (by kernel_rfl) (by kernel_rfl) (by kernel_rfl) (by1 fun _ => rfl)
  have D28 := dat X G "_law_same" s_l_same "law_planwell_k17_floors_and_ways_on" 393 227 226 ["_law_found", "_law_due"] (by kernel_rfl) (by kernel_rfl) (by kernel_rfl) (by2 fun _ _ => rfl)
  have D29 := dat X G "_law_worth" s_l_worth "law_planwell_k17_floors_and_ways_on" 393 234 233 ["_law_constant", "_law_pairs_here", "_law_values"] (by kernel_rfl) (by kernel_rfl) (by kernel_rfl) (by3 fun _ _ _ => rfl)
  have D30 := dat X G "_law_unknown" s_l_unknown "law_planwell_k17_floors_and_ways_on" 393 241 240 ["_law_number", "_law_k"] (by kernel_rfl) (by kernel_rfl) (by kernel_rfl) (by2 fun _ _ => rfl)
  have D31 := dat X G "_law_pairs" s_l_pairs "law_planwell_k17_floors_and_ways_on" 393 248 247 ["_law_cell", "_law_many"] (by kernel_rfl) (by kernel_rfl) (by kernel_rfl) (by2 fun _ _ => rfl)
  have D32 := dat X G "_law_stands" s_l_stands "law_planwell_k17_floors_and_ways_on" 393 255 254 ["_law_left", "_law_mark", "_law_bound"] (by kernel_rfl) (by kernel_rfl) (by kernel_rfl) (by3 fun _ _ _ => rfl)
  have D33 := dat X G "_law_turned" s_l_turned "law_planwell_k17_floors_and_ways_on" 393 260 259 ["_law_plan"] (by kernel_rfl) (by kernel_rfl) (by kernel_rfl) (by1 fun _ => rfl)
  have D34 := dat X G "_law_floor" s_l_floor "law_planwell_k17_floors_and_ways_on" 393 265 264 ["_law_plan", "_law_pairs_here", "_law_prices"] (by kernel_rfl) (by kernel_rfl) (by kernel_rfl) (by3 fun _ _ _ => rfl)
  have D35 := dat X G "_law_leads_on" s_l_leads_on "law_planwell_k17_floors_and_ways_on" 393 272 271 ["_law_plan", "_law_way"] (by kernel_rfl) (by kernel_rfl) (by kernel_rfl) (by2 fun _ _ => rfl)
  have D36 := dat X G "_law_step" s_l_step "law_planwell_k17_floors_and_ways_on" 393 279 278 ["_law_unknown_here", "_law_number"] (by kernel_rfl) (by kernel_rfl) (by kernel_rfl) (by2 fun _ _ => rfl)
  have D37 := dat X G "_law_row" s_l_row "law_planwell_k17_floors_and_ways_on" 393 286 285 ["_law_cell", "_law_k", "_law_way"] (by kernel_rfl) (by kernel_rfl) (by kernel_rfl) (by3 fun _ _ _ => rfl)
  have D38 := dat X G "_law_price" s_l_price "law_planwell_k17_floors_and_ways_on" 393 293 292 ["_law_row_here", "_law_number"] (by kernel_rfl) (by kernel_rfl) (by kernel_rfl) (by2 fun _ _ => rfl)
  have D39 := dat X G "_law_goal" s_l_goal "law_planwell_k17_floors_and_ways_on" 393 300 299 ["_law_cell", "_law_way"] (by kernel_rfl) (by kernel_rfl) (by kernel_rfl) (by2 fun _ _ => rfl)
  have D40 := dat X G "_law_floor_good" s_l_floor_good "law_planwell_k17_floors_and_ways_on" 393 307 306 ["_law_plan", "_law_pairs_here", "_law_prices"] (by kernel_rfl) (by kernel_rfl) (by kernel_rfl) (by3 fun _ _ _ => rfl)
  have D41 := dat X G "_law_alike" s_l_alike "law_planwell_k17_floors_and_ways_on" 393 312 311 ["_law_plan", "_law_number"] (by kernel_rfl) (by kernel_rfl) (by kernel_rfl) (by2 fun _ _ => rfl)
  have D42 := dat X G "law" s_law "law_planwell_k17_floors_and_ways_on" 393 317 316 ["_law_script"] (by kernel_rfl) (by kernel_rfl) (by kernel_rfl) (by1 fun _ => rfl)
  exact ⟨_, fun s v => .of_eq rfl, fun base _ _ => to_law (ok_law (⟨_, _, D1, _, _, _, _, D2, _, _, D3, _, _, D4, _, _, D5, _, _, D6, _, _, D7, _, _, D8, _, _, D9, _, _, D10, _, _, D11, _, _, D12, _, _, D13, _, _, D14, _, _, D15, _, _, D16, _, _, D17, _, _, D18, _, _, D19, _, _, D20, _, _, D21, _, _, D22, _, _, D23, _, _, D24, _, _, D25, _, _, D26, _, _, D27, _, _, D28, _, _, D29, _, _, D30, _, _, D31, _, _, D32, _, _, D33, _, _, D34, _, _, D35, _, _, D36, _, _, D37, _, _, D38, _, _, D39, _, _, D40, _, _, D41, _, _, D42, _, M (by kernel_rfl), fun _ => rep_tup.mpr ⟨40, [.int 0, .int 1], rfl, .inr ⟨_, _, _, (by kernel_rfl : (KP P).lookup 40 = some (tO [.int 0 225, .int 1 226])), rfl, rfl, (by show 2 <= sizeLine; decide), .cons ⟨_, rfl⟩ (.cons ⟨_, rfl⟩ .nil), rfl⟩, .cons (rep_int.mpr rfl) (.cons (rep_int.mpr rfl) .nil)⟩, _, ⟨M (by kernel_rfl), (by kernel_rfl : PySem.W.excIn (KP P) 37 veB "ValueError.__new__" = true)⟩⟩ : AllD (KP P) mg) B)⟩
end
end Pw
open PySem PySem.W PyProof.Rows
theorem Pw.left : LeftO PySem.Challenge.pw_planwell_k17_floors_and_ways_on Pw.qView ["fraction"] (fun s => xlAt Pw.qView [] s && recOk [] s) (fun s => Pw.KA.map s.heap.get?) (fun w => (Pw.KP w.params).map fun p => some p.2) 3598 := fun w => by kernel_rfl
set_option maxRecDepth 100000 in
set_option maxHeartbeats 0 in
theorem PySem.Challenge.cw_planwell_k17_floors_and_ways_on_holds : PySem.Challenge.rw_planwell_k17_floors_and_ways_on.Holds := by
  w_on; o_law
  refine W.holds_open (d := ⟨"law", L2.defArgs Pw.s_law, L2.defBody Pw.s_law, L2.defScope Pw.s_law, Pw.posOf Pw.s_law⟩) (kwd := []) (XP := XL Pw.qView [])
    (YP := fun w h => (Pw.KP w.params).In h) Pw.left (fun w s e => Frag.in_of (as := Pw.KA) (by kernel_rfl) e)
    (fun w h h' x k => Frag.In.keeps x k) (fun s e => xl_of s (Bool.and_eq_true_iff.mp e).1) XL.keeps
    (by kernel_rfl) (by kernel_rfl) (by kernel_rfl) (fun s e => recFacts_of (Bool.and_eq_true_iff.mp e).2)
    rfl (by first | assumption | decide +kernel) (by decide +kernel) ⟨rfl, rfl, rfl, rfl, rfl, by decide +kernel⟩ ?hw ?hc
  case hw => w_witness2
  exact L2.walk_ofB (n := 63) (k := 8) (x := "_law_script") (CX := fun _ => L2.CX0) (sp := fun w => Pw.spLaw (Pw.KP w.params)) rfl (by decide) rfl ⟨rfl, by decide, by decide, rfl⟩ (fun _ _ Y => Y)
    (fun w mg fa h X G e => Pw.all_mk (l := PySem.Challenge.rw_planwell_k17_floors_and_ways_on) X G e) (fun _ _ a ns hl few _ hS => ⟨a, ns, rfl, hS, hl, few, fun _ => rfl⟩) fun _ _ _ _ _ z => z
