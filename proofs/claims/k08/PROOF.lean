import PyProof.Rows.All
import Wide.All
import OpenK.AllK
import Wide.FinOn
import Lean
import PyProof.EqAt
import PyProof.EqKinds
import PyProof.TupleCall
import PySem.Challenge.RW_rowbreadth_k08_leaves
set_option Elab.async false
set_option linter.all false
set_option maxRecDepth 100000
set_option maxHeartbeats 4000000
def PySem.W.Fast.tw14243696567323016906 : Unit := ()
def PySem.W.Fast.tw241468269987885971 : Unit := ()
def PySem.W.Fast.tw11096354871398997902 : Unit := ()
def PySem.W.Fast.tw9718759549487704998 : Unit := ()
def PySem.W.Fast.tw14205189596723301505 : Unit := ()
def PySem.W.Fast.tw15131958530017015153 : Unit := ()
def PySem.W.Fast.tw15867184196865120067 : Unit := ()
def PySem.W.Fast.tw15467778522864401577 : Unit := ()
def PySem.W.Fast.tw10130645363687684933 : Unit := ()
def PySem.W.Fast.tw13374390895389586619 : Unit := ()
def PySem.W.Fast.tw9757767291892826177 : Unit := ()
/-! THE HAND LAYER, for ints, bools, texts, own classes, LISTS and tuples (index, slices, in, append, pop ..), calls, loops. Paste it whole ahead of your own text; what your proof does not reach may be deleted. -/
namespace L2
open PySem PySem.Spec PyProof.Rows

/-- a key: an int or a str -/
abbrev Key := Sum Int Str
def keyIs : Key → Value → Bool
  | .inl k, v => Value.isInt k v
  | .inr x, v => Value.isStrOf x v
def keyH (w : World) : Key → Int
  | .inl k => hashInt k
  | .inr x => hashStr w x
theorem keyIs_shape : ∀ {k : Key} {v : Value}, keyIs k v = true → (∃ i t, k = Sum.inl i ∧ v = Value.int i t) ∨ (∃ x t, k = Sum.inr x ∧ v = Value.str x t)
  | .inl i, v, h => by
    obtain ⟨t, e⟩ := Value.isInt_shape (k := i) (v := v) h
    exact .inl ⟨i, t, rfl, e⟩
  | .inr x, v, h => by
    obtain ⟨t, e⟩ := Value.isStrOf_shape (x := x) (v := v) h
    exact .inr ⟨x, t, rfl, e⟩
theorem key_ll (a b : Int) : decide ((Sum.inl a : Key) = Sum.inl b) = (a == b) := by
  by_cases e : a = b
  · subst e; simp
  · have h : ¬ (Sum.inl a : Key) = Sum.inl b := fun q => e (Sum.inl.inj q)
    rw [decide_eq_false h]
    exact (beq_eq_false_iff_ne.mpr e).symm
theorem key_rr (a b : Str) : decide ((Sum.inr a : Key) = Sum.inr b) = decide (a = b) := by
  by_cases e : a = b
  · subst e; simp
  · have h : ¬ (Sum.inr a : Key) = Sum.inr b := fun q => e (Sum.inr.inj q)
    rw [decide_eq_false h, decide_eq_false e]
theorem key_lr (a : Int) (b : Str) : decide ((Sum.inl a : Key) = Sum.inr b) = false := decide_eq_false (fun q => nomatch q)
theorem key_rl (a : Str) (b : Int) : decide ((Sum.inr a : Key) = Sum.inl b) = false := decide_eq_false (fun q => nomatch q)

def mixKind (prog : Program) (w : World) : PySem.KeyKind prog w Key where
  is := keyIs
  hash := keyH w
  inj := fun v a b ha hb => by
    rcases keyIs_shape ha with ⟨i, t, rfl, rfl⟩ | ⟨x, t, rfl, rfl⟩
    · rcases keyIs_shape hb with ⟨j, u, rfl, e⟩ | ⟨y, u, rfl, e⟩
      · injection e with e1 _; rw [e1]
      · exact nomatch e
    · rcases keyIs_shape hb with ⟨j, u, rfl, e⟩ | ⟨y, u, rfl, e⟩
      · exact nomatch e
      · injection e with e1 _; rw [e1]
  byValue := fun k v h => by
    rcases keyIs_shape h with ⟨i, t, rfl, rfl⟩ | ⟨x, t, rfl, rfl⟩ <;> rfl
  pyHash := fun hv h => by
    rcases keyIs_shape hv with ⟨i, t, rfl, rfl⟩ | ⟨x, t, rfl, rfl⟩
    · exact wpAny_pyHash_int h
    · exact wpAny_pyHash_str h
  eqBool := fun hu hv h => by
    rcases keyIs_shape hu with ⟨i, t, rfl, rfl⟩ | ⟨x, t, rfl, rfl⟩
    · rcases keyIs_shape hv with ⟨j, u, rfl, rfl⟩ | ⟨y, u, rfl, rfl⟩
      · rw [key_ll] at h; exact wpAny_eqBool_int h
      · rw [key_lr] at h; exact SeqAt.EqAt.int_str i t y u _ _ _ _ h
    · rcases keyIs_shape hv with ⟨j, u, rfl, rfl⟩ | ⟨y, u, rfl, rfl⟩
      · rw [key_rl] at h; exact SeqAt.EqAt.str_int x t j u _ _ _ _ h
      · rw [key_rr] at h; exact wpAny_eqBool_str h
  «strs» := fun k x t v h => by
    rcases keyIs_shape h with ⟨i, u, rfl, e⟩ | ⟨y, u, rfl, e⟩
    · exact nomatch e
    · injection e with e1 _
      subst e1
      cases v <;> rfl

end L2

namespace L2
open PySem PySem.Spec PyProof.Rows

/-- a value, without the heap -/
inductive V where
  | non | bl (b : Bool) | int (i : Int) | str (x : Str) | byt (b : Array UInt8) | flt (b : UInt64) | ref (a : Addr) | ty (n : String)
  deriving DecidableEq

def RelV : V → Value → Prop
  | .non, u => u = Value.none
  | .bl b, u => u = Value.bool b
  | .int i, u => ∃ t, u = Value.int i t
  | .str x, u => ∃ t, u = Value.str x t
  | .byt b, u => ∃ t, u = Value.bytes b t
  | .flt b, u => ∃ t, u = Value.float b t
  | .ref a, u => u = Value.ref a
  | .ty n, u => u = Value.type n

abbrev Vals : List V → List Value → Prop := Paired RelV
theorem Vals.length {xs : List V} {us : List Value} (r : Vals xs us) : xs.length = us.length := Paired.length r
theorem Vals.get : ∀ {xs : List V} {us : List Value} {i : Nat} {x : V}, Vals xs us → xs[i]? = some x → ∃ u, us[i]? = some u ∧ RelV x u
  | _, _, _, _, .nil, e => by simp at e
  | _, _, 0, _, .cons r _, e => by simp at e; subst e; exact ⟨_, rfl, r⟩
  | _, _, i + 1, x, .cons _ t, e => by
    obtain ⟨u, h1, h2⟩ := Vals.get (i := i) (x := x) t (by simpa using e)
    exact ⟨u, by simpa using h1, h2⟩
theorem Vals.set {x : V} {u : Value} (r : RelV x u) : ∀ {xs : List V} {us : List Value} (i : Nat), Vals xs us → Vals (xs.set i x) (us.set i u)
  | _, _, _, .nil => .nil
  | _, _, 0, .cons _ t => .cons r t
  | _, _, i + 1, .cons q t => .cons q (Vals.set r i t)
theorem Vals.append : ∀ {xs ys : List V} {us ws : List Value}, Vals xs us → Vals ys ws → Vals (xs ++ ys) (us ++ ws)
  | _, _, _, _, .nil, s => s
  | _, _, _, _, .cons r t, s => .cons r (Vals.append t s)
theorem Vals.take : ∀ {xs : List V} {us : List Value} (n : Nat), Vals xs us → Vals (xs.take n) (us.take n)
  | _, _, 0, _ => .nil
  | _, _, _ + 1, .nil => .nil
  | _, _, n + 1, .cons r t => .cons r (Vals.take n t)
theorem Vals.drop : ∀ {xs : List V} {us : List Value} (n : Nat), Vals xs us → Vals (xs.drop n) (us.drop n)
  | _, _, 0, r => r
  | _, _, _ + 1, .nil => .nil
  | _, _, n + 1, .cons _ t => Vals.drop n t
theorem Vals.none_of : ∀ {xs : List V} {us : List Value} {i : Nat}, Vals xs us → xs[i]? = none → us[i]? = none := fun {xs us i} r e => by
  have h1 := r.length
  have h2 : xs.length ≤ i := List.getElem?_eq_none_iff.mp e
  exact List.getElem?_eq_none_iff.mpr (by omega)

def RelO : Option V → Option Value → Prop
  | some v, some u => RelV v u
  | none, none => True
  | _, _ => False
def KV {κ : Type} : List (κ × V) → List (κ × Value) → Prop := Paired fun (p : κ × V) (q : κ × Value) => p.1 = q.1 ∧ RelV p.2 q.2

/-- a key of a dict (00_mix): an int or a text -/
def kV : Key → V
  | .inl i => .int i
  | .inr x => .str x

/-- what stands at a tracked address -/
inductive HO where
  /-- a list -/
  | lst (xs : List V)
  /-- a tuple (never changes) -/
  | tup (xs : List V)
  /-- a dict whose keys are ints and texts; one whose keys are tuples of ints and texts (the empty one is both) -/
  | dK (kvs : List (Key × V)) | dT (kvs : List (List Key × V))
  /-- a set of ints: its members, its size -/
  | set (S : Int → Bool) (n : Nat)
  /-- an instance of the class at C, its dict at dx, its attributes -/
  | ins (C dx : Addr) (fs : List (Str × V))
  /-- the dict of the instance at x -/
  | own (x : Addr)
  /-- the dict of an exception -/
  | xd (fs : List (Str × V))
  /-- a bound method, f of x -/
  | met (f x : Addr)
  /-- a range object lo, lo + 1, .. below hi -/
  | rng (lo hi : Int)
  /-- a thing that is known to the object (the script; a dict while a loop walks it): read, never written while it is so -/
  | frz (o : Obj) (u : HO)
  /-- a code object's table -/
  | tbl (ps : Array Value)
  /-- any other thing, by what is true of its one object (a def of one's own: SetO a S n := HO.ext fun h => ..) -/
  | ext (φ : Heap → Prop)

abbrev Hp := Addr → Option HO
def upd (H : Hp) (a : Addr) (o : HO) : Hp := fun b => if b = a then some o else H b
theorem upd_same {H : Hp} {a : Addr} {o : HO} : upd H a o a = some o := by unfold upd; rw [if_pos rfl]
theorem upd_ne {H : Hp} {a b : Addr} {o : HO} (h : b ≠ a) : upd H a o b = H b := by unfold upd; rw [if_neg h]
theorem ne_of_none {H : Hp} {a b : Addr} {o : HO} (h : H a = some o) (h' : H b = none) : a ≠ b := by
  intro e; subst e; rw [h] at h'; cases h'

section
variable (P : Program) (w : World)
def ObjOk (H : Hp) (h : Heap) (a : Addr) : HO → Prop
  | .lst xs => xs.length ≤ sizeLine ∧ ∃ (its : List Value) (n : Nat), Vals xs its ∧ h.get? a = some { cls := .type "list", data := .seq its.toArray n }
  | .tup xs => xs.length ≤ sizeLine ∧ ∃ its : List Value, Vals xs its ∧ IsTup h a its.toArray
  | .dK kvs => kvs.length ≤ sizeLine ∧ (a == sysModules) = false ∧ ∃ vs, KV kvs vs ∧ h.DictOf (mixKind P w) a vs
  | .dT kvs => kvs.length ≤ sizeLine ∧ (a == sysModules) = false ∧ ∃ xs : List (List Key × Addr × Value),
      Paired (fun (p : List Key × V) (q : List Key × Addr × Value) => p.1 = q.1 ∧ H q.2.1 = some (.tup (p.1.map kV)) ∧ RelV p.2 q.2.2) kvs xs ∧
      ∃ o es ep, h.get? a = some o ∧ o.ExactDict ∧ o.data = .dict es ep ∧ es.toList = xs.map (entryOfKey (tupleKind (mixKind P w))) ∧ (xs.map (·.1)).Nodup
  | .set S n => h.SetOf (intKind P w) a S n
  | .ins C dx fs => H dx = some (.own a) ∧ fs.length ≤ 1000 ∧ dx ≠ a ∧ h.get? a = some (PySem.W.instObj C dx) ∧
      ∃ mA, h.Ns1 dx mA ∧ (∀ f, RelO (fs.lookup f) (mA f)) ∧ PySem.Within mA (fs.map (·.1))
  | .own _ => ∃ o, h.get? a = some o
  | .xd fs => ∃ mA, h.Ns1 a mA ∧ ∀ f, RelO (fs.lookup f) (mA f)
  | .rng lo hi => ∃ t u v, h.get? a = some { cls := .type "range", data := .fields #[.int lo t, .int hi u, .int 1 v] }
  | .frz o u => h.get? a = some o ∧ ObjOk H h a u
  | .tbl ps => h.get? a = some { cls := .none, data := .fields ps }
  | .met f x => h.get? a = some (PySem.W.methodObj (.ref f) (.ref x))
  | .ext φ => φ h ∧ (∃ o, h.get? a = some o) ∧ ∀ h1 h2 : Heap, φ h1 → (∀ o, h1.get? a = some o → h2.get? a = some o) → φ h2
/-- the abstract heap is held -/
def HOk (H : Hp) (h : Heap) : Prop := ∀ a o, H a = some o → ObjOk P w H h a o
end

section
variable {P : Program} {w : World} {H H' : Hp} {h h' : Heap} {a : Addr} {o : HO}
theorem ObjOk.lt (x : ObjOk P w H h a o) : a < h.objs.size := by
  cases o with
  | lst xs => obtain ⟨_, _, _, _, e⟩ := x; exact Heap.lt_size e
  | tup xs => obtain ⟨_, _, _, p⟩ := x; exact p.lt
  | dK kvs => obtain ⟨_, _, _, _, o, _, _, e, _⟩ := x; exact Heap.lt_size e
  | dT kvs => obtain ⟨_, _, _, _, o, _, _, e, _⟩ := x; exact Heap.lt_size e
  | set S n => obtain ⟨o, _, _, _, e, _⟩ := x; exact Heap.lt_size e
  | ins C dx fs => obtain ⟨_, _, _, e, _⟩ := x; exact Heap.lt_size e
  | own y => obtain ⟨_, e⟩ := x; exact Heap.lt_size e
  | xd fs => obtain ⟨_, ⟨_, _, _, e, _⟩, _⟩ := x; exact Heap.lt_size e
  | rng lo hi => obtain ⟨_, _, _, e⟩ := x; exact Heap.lt_size e
  | frz ob u => obtain ⟨e, _⟩ := x; exact Heap.lt_size e
  | tbl ps => exact Heap.lt_size (show h.get? a = some _ from x)
  | met f y => exact Heap.lt_size (show h.get? a = some _ from x)
  | ext φ => obtain ⟨_, ⟨_, e⟩, _⟩ := x; exact Heap.lt_size e
theorem Paired.mapP {α β : Type} {F G : α → β → Prop} : ∀ {l₁ : List α} {l₂ : List β}, Paired F l₁ l₂ → (∀ a b, F a b → G a b) → Paired G l₁ l₂
  | _, _, .nil, _ => .nil
  | _, _, .cons r t, f => .cons (f _ _ r) (Paired.mapP t f)
/-- what an object's description leans on: its own object, its own dict, the tuples -/
theorem ObjOk.stay (x : ObjOk P w H h a o) (k : ∀ b u, (b = a ∨ H b = some (.own a)) → h.get? b = some u → h'.get? b = some u)
    (ho : ∀ b, H b = some (.own a) → H' b = some (.own a)) (ht : ∀ b xs, H b = some (.tup xs) → H' b = some (.tup xs)) : ObjOk P w H' h' a o := by
  induction o with
  | lst xs => obtain ⟨z, its, n, r, e⟩ := x; exact ⟨z, its, n, r, k _ _ (.inl rfl) e⟩
  | tup xs => obtain ⟨z, its, r, ob, e, c⟩ := x; exact ⟨z, its, r, ob, k _ _ (.inl rfl) e, c⟩
  | dK kvs => obtain ⟨z, y, vs, r, ob, es, ep, e, c⟩ := x; exact ⟨z, y, vs, r, ob, es, ep, k _ _ (.inl rfl) e, c⟩
  | dT kvs =>
    obtain ⟨z, y, xs, r, ob, es, ep, e, c⟩ := x
    exact ⟨z, y, xs, Paired.mapP r fun p q z => ⟨z.1, ht _ _ z.2.1, z.2.2⟩, ob, es, ep, k _ _ (.inl rfl) e, c⟩
  | set S n => obtain ⟨ob, es, ep, t, e, c⟩ := x; exact ⟨ob, es, ep, t, k _ _ (.inl rfl) e, c⟩
  | ins C dx fs =>
    obtain ⟨d, z, ne, e, mA, ⟨od, es, ep, e2, c⟩, r⟩ := x
    exact ⟨ho _ d, z, ne, k _ _ (.inl rfl) e, mA, ⟨od, es, ep, k _ _ (.inr d) e2, c⟩, r⟩
  | own y => obtain ⟨ob, e⟩ := x; exact ⟨ob, k _ _ (.inl rfl) e⟩
  | xd fs => obtain ⟨mA, ⟨od, es, ep, e, c⟩, r⟩ := x; exact ⟨mA, ⟨od, es, ep, k _ _ (.inl rfl) e, c⟩, r⟩
  | rng lo hi => obtain ⟨t, u, v, e⟩ := x; exact ⟨t, u, v, k _ _ (.inl rfl) e⟩
  | frz ob u ih => obtain ⟨e, q⟩ := x; exact ⟨k _ _ (.inl rfl) e, ih q⟩
  | tbl ps =>
    have e : h.get? a = some { cls := .none, data := .fields ps } := x
    show h'.get? a = some { cls := .none, data := .fields ps }
    exact k a _ (.inl rfl) e
  | met f y =>
    have e : h.get? a = some (PySem.W.methodObj (.ref f) (.ref y)) := x
    show h'.get? a = some (PySem.W.methodObj (.ref f) (.ref y))
    exact k a _ (.inl rfl) e
  | ext φ => obtain ⟨p, ⟨o, e⟩, st⟩ := x; exact ⟨st _ _ p fun o q => k _ _ (.inl rfl) q, ⟨o, k _ _ (.inl rfl) e⟩, st⟩
theorem HOk.lt (x : HOk P w H h) (e : H a = some o) : a < h.objs.size := (x a o e).lt
theorem HOk.fresh (x : HOk P w H h) (e : h.objs.size ≤ a) : H a = none := by
  cases q : H a with
  | none => rfl
  | some u => exact absurd (Nat.lt_of_lt_of_le (x.lt q) e) (Nat.lt_irrefl _)
/-- every object of the heap is kept -/
theorem HOk.kept (x : HOk P w H h) (k : ∀ b u, h.get? b = some u → h'.get? b = some u) : HOk P w H h' := fun a o e =>
  (x a o e).stay (fun b u _ q => k b u q) (fun _ q => q) fun _ _ q => q
/-- a new object is laid and tracked -/
theorem HOk.laid (x : HOk P w H h) (k : ∀ b u, h.get? b = some u → h'.get? b = some u) (hp : h.objs.size ≤ a) (new : ObjOk P w (upd H a o) h' a o) : HOk P w (upd H a o) h' := fun b u e => by
  have hn := x.fresh hp
  by_cases hb : b = a
  · subst hb; rw [upd_same] at e; cases e; exact new
  · rw [upd_ne hb] at e
    exact (x b u e).stay (fun c v _ q => k c v q) (fun c q => by rw [upd_ne (ne_of_none q hn)]; exact q) fun c xs q => by rw [upd_ne (ne_of_none q hn)]; exact q
end

/-- what may be read as u: it is u, or a known u -/
def Rd (H : Hp) (a : Addr) (u : HO) : Prop := H a = some u ∨ ∃ o, H a = some (.frz o u)
theorem Rd.of {H : Hp} {a : Addr} {u : HO} (h : H a = some u) : Rd H a u := .inl h
theorem Rd.ok {P : Program} {w : World} {H : Hp} {h : Heap} {a : Addr} {u : HO} (r : Rd H a u) (x : HOk P w H h) : ObjOk P w H h a u := by
  rcases r with r | ⟨o, r⟩
  · exact x a u r
  · obtain ⟨_, q⟩ := x a _ r
    exact q
/-- what may be written -/
def Mut : Option HO → Prop
  | some (.lst _) => True
  | some (.dK _) => True
  | some (.dT _) => True
  | some (.set _ _) => True
  | some (.ins _ _ _) => True
  | some (.ext _) => True
  | _ => False
section
variable {P : Program} {w : World} {H : Hp} {h h' : Heap} {x e : Addr} {o' : HO}
/-- the object at e is changed: x itself, or the dict of the instance x -/
theorem HOk.write (ok : HOk P w H h) (mu : Mut (H x)) (he : e = x ∨ H e = some (.own x)) (k : ∀ b u, b ≠ e → h.get? b = some u → h'.get? b = some u) (heo : ∃ u, h'.get? e = some u)
    (new : ObjOk P w (upd H x o') h' x o') : HOk P w (upd H x o') h' := fun b u q => by
  have nown : ∀ c y, H c = some (.own y) → c ≠ x := fun c y r z => by subst z; rw [r] at mu; exact mu
  have ntup : ∀ c xs, H c = some (.tup xs) → c ≠ x := fun c xs r z => by subst z; rw [r] at mu; exact mu
  by_cases hb : b = x
  · subst hb; rw [upd_same] at q; cases q; exact new
  · rw [upd_ne hb] at q
    by_cases hbe : b = e
    · have q' : H b = some (.own x) := by
        rcases he with z | z
        · exact absurd (hbe.trans z) hb
        · rw [hbe]; exact z
      rw [q] at q'; cases q'
      obtain ⟨v, hv⟩ := heo
      exact ⟨v, by rw [hbe]; exact hv⟩
    · refine (ok b u q).stay (fun c v hc r => k c v ?_ r) (fun c r => by rw [upd_ne (nown c b r)]; exact r) fun c xs r => by rw [upd_ne (ntup c xs r)]; exact r
      rcases hc with rfl | hc
      · exact hbe
      · rintro rfl
        rcases he with z | z
        · exact nown c b hc z
        · rw [hc] at z; cases z; exact hb rfl
end

/-! ### kept unless tracked; of the frames at fs (the callers') the slots may change (an exception that passes writes there); of the records at ex (iterators) nothing is said -/
structure Un (fs ex : List Addr) (H H' : Hp) (h h' : Heap) : Prop where
  keep : ∀ b o, h.get? b = some o → H b = none → b ∉ fs → b ∉ ex → h'.get? b = some o
  slot : ∀ b o, h.get? b = some o → H b = none → b ∈ fs → b ∉ ex → ∃ sl, h'.get? b = some { o with slots := sl }
  free : ∀ b o, h.get? b = some o → H b = none → b ∉ ex → H' b = none
  there : ∀ b o, h.get? b = some o → b ∉ ex → ∃ o', h'.get? b = some o'
  tups : ∀ b xs, H b = some (.tup xs) → H' b = some (.tup xs)
  frzs : ∀ b o u, H b = some (.frz o u) → H' b = some (.frz o u)
  tbls : ∀ b ps, H b = some (.tbl ps) → ∃ more, H' b = some (.tbl (ps ++ more))
section
variable {fs fs' ex ex' : List Addr} {H H1 H2 : Hp} {h h1 h2 h' : Heap} {a x e : Addr} {o : HO}
theorem Un.any (u : Un fs ex H H1 h h1) {b : Addr} {ob : Obj} (q : h.get? b = some ob) (n : H b = none) (hx : b ∉ ex) : ∃ sl, h1.get? b = some { ob with slots := sl } := by
  by_cases hb : b ∈ fs
  · exact u.slot b ob q n hb hx
  · exact ⟨ob.slots, u.keep b ob q n hb hx⟩
theorem Un.trans (a : Un fs ex H H1 h h1) (b : Un fs ex H1 H2 h1 h2) : Un fs ex H H2 h h2 where
  keep := fun c ob q n hc hx => b.keep c ob (a.keep c ob q n hc hx) (a.free c ob q n hx) hc hx
  slot := fun c ob q n hc hx => by
    obtain ⟨sl, e1⟩ := a.slot c ob q n hc hx
    obtain ⟨sl', e2⟩ := b.slot c _ e1 (a.free c ob q n hx) hc hx
    exact ⟨sl', e2⟩
  free := fun c ob q n hx => by
    obtain ⟨o', e1⟩ := a.there c ob q hx
    exact b.free c o' e1 (a.free c ob q n hx) hx
  there := fun c ob q hx => by
    obtain ⟨o', e1⟩ := a.there c ob q hx
    exact b.there c o' e1 hx
  tups := fun c xs q => b.tups c xs (a.tups c xs q)
  frzs := fun c ob xs q => b.frzs c ob xs (a.frzs c ob xs q)
  tbls := fun c ps q => by
    obtain ⟨m1, e1⟩ := a.tbls c ps q
    obtain ⟨m2, e2⟩ := b.tbls c _ e1
    exact ⟨m1 ++ m2, by rw [e2, Array.append_assoc]⟩
theorem Un.kept (k : ∀ b u, h.get? b = some u → h'.get? b = some u) : Un fs ex H H h h' :=
  ⟨fun b ob q _ _ _ => k b ob q, fun b ob q _ _ _ => ⟨ob.slots, k b ob q⟩, fun _ _ _ n _ => n, fun b ob q _ => ⟨ob, k b ob q⟩, fun _ _ q => q, fun _ _ _ q => q, fun _ ps q => ⟨#[], by rw [q]; simp⟩⟩
theorem Un.refl : Un fs ex H H h h := Un.kept fun _ _ q => q
theorem Un.laid (k : ∀ b u, h.get? b = some u → h'.get? b = some u) (hp : h.objs.size ≤ a) (hn : H a = none) : Un fs ex H (upd H a o) h h' where
  keep := fun b u q _ _ _ => k b u q
  slot := fun b u q _ _ _ => ⟨u.slots, k b u q⟩
  free := fun b u q n _ => by rw [upd_ne (Nat.ne_of_lt (Nat.lt_of_lt_of_le (Heap.lt_size q) hp))]; exact n
  there := fun b u q _ => ⟨u, k b u q⟩
  tups := fun b xs q => by rw [upd_ne (ne_of_none q hn)]; exact q
  frzs := fun b u xs q => by rw [upd_ne (ne_of_none q hn)]; exact q
  tbls := fun b ps q => ⟨#[], by rw [upd_ne (ne_of_none q hn), q]; simp⟩
theorem Un.write (mu : Mut (H x)) (he : e = x ∨ H e = some (.own x)) (k : ∀ b u, b ≠ e → h.get? b = some u → h'.get? b = some u) (heo : ∃ u, h'.get? e = some u) : Un fs ex H (upd H x o) h h' := by
  have hx : ∀ b, H b = none → b ≠ x := fun b n z => by subst z; rw [n] at mu; exact mu
  have hb : ∀ b, H b = none → b ≠ e := fun b n z => by
    subst z
    rcases he with r | r
    · exact hx b n r
    · rw [n] at r; cases r
  have hm : ∀ b u, H b = some u → ¬ Mut (some u) → b ≠ x := fun b u q nm z => by subst z; rw [q] at mu; exact nm mu
  refine ⟨fun b u q n _ _ => k b u (hb b n) q, fun b u q n _ _ => ⟨u.slots, k b u (hb b n) q⟩, fun b u q n _ => by rw [upd_ne (hx b n)]; exact n, fun b u q _ => ?_,
    fun b xs q => by rw [upd_ne (hm b _ q fun z => z)]; exact q, fun b u xs q => by rw [upd_ne (hm b _ q fun z => z)]; exact q, fun b ps q => ⟨#[], by rw [upd_ne (hm b _ q fun z => z), q]; simp⟩⟩
  by_cases hbe : b = e
  · subst hbe; exact heo
  · exact ⟨u, k b u hbe q⟩
theorem Un.mono (u : Un fs ex H H1 h h1) (hs : ∀ b ∈ fs, b ∈ fs') (hx : ∀ b ∈ ex, b ∈ ex') : Un fs' ex' H H1 h h1 :=
  ⟨fun b ob q n hb he => u.keep b ob q n (fun z => hb (hs b z)) fun z => he (hx b z), fun _ _ q n _ he => u.any q n fun z => he (hx _ z), fun b ob q n he => u.free b ob q n fun z => he (hx b z), fun b ob q he => u.there b ob q fun z => he (hx b z), u.tups, u.frzs, u.tbls⟩
end

/-! ### the heap without what is tracked -/
def trk (h : Heap) (H : Hp) : List Addr := (List.range h.objs.size).filter fun a => (H a).isSome
def hidT (h : Heap) (H : Hp) : Heap := PySem.W.hideAll h (trk h H)
theorem hidT_size (h : Heap) (H : Hp) : (hidT h H).objs.size = h.objs.size := PySem.W.hideAll_size _ _
theorem hidT_get {h : Heap} {H : Hp} {b : Addr} {o : Obj} (e : h.get? b = some o) (n : H b = none) : (hidT h H).get? b = some o :=
  PySem.W.hideAll_get _ e fun hm => by
    have q : (H b).isSome = true := (List.mem_filter.mp hm).2
    rw [n] at q; simp at q
theorem of_hidT {h : Heap} {H : Hp} {b : Addr} {o : Obj} (e : (hidT h H).get? b = some o) : h.get? b = some o ∧ H b = none := by
  have e' : h.get? b = some o := PySem.W.of_hideAll (trk h H) e
  refine ⟨e', ?_⟩
  cases q : H b with
  | none => rfl
  | some x =>
    have hm : b ∈ trk h H := List.mem_filter.mpr ⟨List.mem_range.mpr (Heap.lt_size e'), by simp [q]⟩
    have z : (hidT h H).get? b = none := PySem.W.hideAll_none (trk h H) hm
    rw [z] at e; cases e

/-! ### OpenK's ledger, filled with every new object but one -/
def allNews (g h : Heap) (L : Addr) : List (Addr × Obj) := (List.range h.objs.size).filterMap fun a => if a = L ∨ (g.get? a).isSome = true then none else (h.get? a).map fun o => (a, o)
theorem mem_allNews {g h : Heap} {L a : Addr} {o : Obj} (h1 : a ≠ L) (h2 : g.get? a = none) (h3 : h.get? a = some o) : (a, o) ∈ allNews g h L :=
  List.mem_filterMap.mpr ⟨a, List.mem_range.mpr (Heap.lt_size h3), by simp [h1, h2, h3]⟩
theorem of_mem_allNews {g h : Heap} {L : Addr} {p : Addr × Obj} (hp : p ∈ allNews g h L) : p.1 ≠ L ∧ g.get? p.1 = none ∧ h.get? p.1 = some p.2 := by
  obtain ⟨b, _, e⟩ := List.mem_filterMap.mp hp
  split at e
  · cases e
  · rename_i hn
    cases q : h.get? b with
    | none => rw [q] at e; simp at e
    | some u =>
      rw [q] at e
      simp only [Option.map_some, Option.some.injEq] at e
      subst e
      refine ⟨fun z => hn (.inl z), ?_, q⟩
      show g.get? b = none
      cases r : g.get? b with
      | none => rfl
      | some v => exact (hn (.inr (by simp [r]))).elim
def rest (g h : Heap) (L d : Addr) : List (Addr × Obj) := (allNews g h L).filter fun p => decide (p.1 ≠ d)
theorem news_all {g h : Heap} {L : Addr} : News g L h (allNews g h L) := fun p hp => let ⟨a, b, c⟩ := of_mem_allNews hp; ⟨c, a, b⟩
end L2

namespace L2
open PySem PySem.Spec PyProof.Rows

/-- the module's facts, over the base: the heap at the law's entry without what is tracked there -/
structure Mod (K : PySem.W.Frag) (mg : Str → Option Value) (base : Heap) : Prop where
  kin : K.In base
  glob : base.Ns mainGlobals mg
  blt : ∃ mb, base.Ns builtinsNs mb ∧ ∀ x : Str, x ≠ "__name__" → mb x = bootBuiltins x
  nolimit : base.NoLimit

/-- the context: a def's body (or a comprehension's block) running. base: fixed through the whole law; s₀, H₀: the entry; outer: the frames whose slots others may change (a def's callers); stack: all frames that run;
   ex: iterators that were made ahead of the entry and are walked here (a comprehension's); fn: the names whose cells were made at the entry (a def: all; a comprehension's block: its own); calm: not within an except suite; pn: pins that every state bears; xe: what is wanted of an exception that leaves the code -/
structure Cx where
  prog : Program
  w : World
  K : PySem.W.Frag
  mg : Str → Option Value
  base : Heap
  A : Around
  N : List Str
  s₀ : Shared
  H₀ : Hp
  env : Env
  outer : List Env
  stack : List Env
  ex : List Addr
  fn : Str → Bool
  calm : Bool
  pn : List (Addr × Obj)
  xe : Value → Shared → Prop
/-- the callers' frames -/
def frs (l : List Env) : List Addr := l.filterMap (·.frame)
abbrev Cx.fs (X : Cx) : List Addr := frs X.outer

def Vis (sc : Scope) (x : Str) : Prop := sc.names.lookup x = some .local ∨ sc.names.lookup x = some .cell ∨ sc.names.lookup x = some .free
def Loc (sc : Scope) (x : Str) : Prop := sc.names.lookup x = some .local ∨ sc.names.lookup x = some .cell
def Look (env : Env) (h : Heap) (m : Str → Option Value) (x : Str) (u : Value) : Prop :=
  (env.kindOf x = some .local ∧ m x = some u) ∨ ((env.kindOf x = some .cell ∨ env.kindOf x = some .free) ∧ ∃ c, env.cells.lookup x = some c ∧ h.IsCell c (some u))

structure Cx.Ok (X : Cx) : Prop where
  mod : Mod X.K X.mg X.base
  kind : X.env.scope.kind = .function
  glob : X.env.globals = mainGlobals
  blt : X.env.builtins = builtinsNs
  above : X.s₀.heap.objs.size ≤ X.env.locals
  inj : ∀ x y c, X.env.cells.lookup x = some c → X.env.cells.lookup y = some c → x = y
  has : ∀ x, (X.env.kindOf x = some .cell ∨ X.env.kindOf x = some .free) → ∃ c, X.env.cells.lookup x = some c
  cab : ∀ x c, X.fn x = true → X.env.cells.lookup x = some c → X.s₀.heap.objs.size ≤ c
  hd : X.calm = true → X.A.handled = none
  frames : X.A.frames = some X.stack
  stk : X.stack = X.outer ∨ (X.stack = X.env :: X.outer ∧ X.env.frame = some X.env.locals)
  exf : ∀ b ∈ X.ex, b ≠ X.env.locals ∧ ∀ x c, X.env.cells.lookup x = some c → c ≠ b
  bs : ∀ b o, X.base.get? b = some o → X.s₀.heap.get? b = some o ∧ X.H₀ b = none
  bsz : X.base.objs.size ≤ X.s₀.heap.objs.size
  noex : ∀ b o, X.base.get? b = some o → b ∉ X.ex
  exfs : ∀ b ∈ X.ex, b ∉ X.fs
  funs : X.s₀.heap.FunFrames X.base X.outer
  frf : ∀ b ∈ X.fs, X.H₀ b = none

structure Inv (X : Cx) (pins : List (Addr × Obj)) (σ : List (Option V)) (H : Hp) (s : Shared) : Prop where
  ok : X.Ok
  os : s.os = X.s₀.os
  bare : AllBare s.gens
  base : Un X.fs X.ex X.H₀ H X.s₀.heap s.heap
  loc : ∃ m, s.heap.Ns X.env.locals m ∧ ∀ (i : Nat) (x : Str) (v : V), X.N[i]? = some x → σ[i]? = some (some v) → Vis X.env.scope x → ∃ u, RelV v u ∧ Look X.env s.heap m x u
  cell : ∀ x c, X.env.cells.lookup x = some c → ∃ v, s.heap.IsCell c v
  free : H X.env.locals = none
  freeC : ∀ x c, X.env.cells.lookup x = some c → H c = none
  pin : ∀ p ∈ X.pn ++ pins, s.heap.get? p.1 = some p.2 ∧ H p.1 = none ∧ p.1 ≠ X.env.locals ∧ p.1 ∉ X.fs ∧ ∀ v, p.2.data ≠ .cell v
  hok : HOk X.prog X.w H s.heap
  len : σ.length = X.N.length

section
variable {X : Cx} {pins : List (Addr × Obj)} {σ : List (Option V)} {H H' : Hp} {s : Shared} {h' : Heap}

theorem Cx.Ok.nofr (ok : X.Ok) {b : Addr} {o : Obj} (e : X.base.get? b = some o) : b ∉ X.fs := fun hb => by
  have := (ok.funs.mem hb).1
  rw [e] at this; cases this
theorem Inv.bs (I : Inv X pins σ H s) : ∀ b o, X.base.get? b = some o → s.heap.get? b = some o ∧ H b = none := fun b o e =>
  ⟨I.base.keep b o (I.ok.bs b o e).1 (I.ok.bs b o e).2 (I.ok.nofr e) (I.ok.noex b o e), I.base.free b o (I.ok.bs b o e).1 (I.ok.bs b o e).2 (I.ok.noex b o e)⟩
theorem Inv.bk (I : Inv X pins σ H s) : ∀ b o, X.base.get? b = some o → s.heap.get? b = some o := fun b o e => (I.bs b o e).1
theorem Inv.mod (I : Inv X pins σ H s) : Mod X.K X.mg X.base := I.ok.mod
theorem Inv.kIn (I : Inv X pins σ H s) : X.K.In s.heap := I.ok.mod.kin.keeps I.bk
theorem Inv.nolimit (I : Inv X pins σ H s) : s.heap.NoLimit := I.ok.mod.nolimit.keeps I.bk
/-- the frame over the base: for OpenK's rules (K.In X.base is I.mod.kin) -/
theorem Inv.fr (I : Inv X pins σ H s) : ∃ m, Fr X.base X.env.locals s.heap m :=
  let ⟨m, hn, _⟩ := I.loc
  ⟨m, hn, I.bk, Nat.le_trans I.ok.bsz I.ok.above⟩
theorem Inv.lt (I : Inv X pins σ H s) : X.env.locals < s.heap.objs.size := let ⟨_, hn, _⟩ := I.loc; hn.lt
theorem Inv.sz (I : Inv X pins σ H s) : X.s₀.heap.objs.size ≤ s.heap.objs.size := Nat.le_trans I.ok.above (Nat.le_of_lt I.lt)
theorem Inv.nofs (I : Inv X pins σ H s) {a : Addr} (h : s.heap.objs.size ≤ a) : a ∉ X.fs := fun hb => by
  obtain ⟨_, o, ho, _⟩ := I.ok.funs.mem hb
  exact absurd (Nat.lt_of_lt_of_le (Heap.lt_size ho) (Nat.le_trans I.sz h)) (Nat.lt_irrefl _)
theorem Inv.cne (I : Inv X pins σ H s) : ∀ x c, X.env.cells.lookup x = some c → c ≠ X.env.locals := fun x c e z => by
  obtain ⟨v, o, ho, hd⟩ := I.cell x c e
  obtain ⟨m, ⟨o', es, ep, ho', hd', _⟩, _⟩ := I.loc
  rw [z, ho'] at ho; cases ho; rw [hd'] at hd; cases hd
theorem Inv.funs (I : Inv X pins σ H s) : s.heap.FunFrames X.base X.outer := by
  have all : ∀ (l : List Env), (∀ b ∈ frs l, b ∈ X.fs) → X.s₀.heap.FunFrames X.base l → s.heap.FunFrames X.base l := by
    intro l
    induction l with
    | nil => intro _ _; trivial
    | cons env r ih =>
      intro hs hl
      obtain ⟨hk, ⟨L, o, hf, hn, ho, hd⟩, hr⟩ := hl
      have hL : L ∈ X.fs := hs L (by unfold frs; rw [List.filterMap_cons, hf]; exact List.mem_cons_self)
      obtain ⟨sl, e⟩ := I.base.slot L o ho (I.ok.frf L hL) hL fun z => I.ok.exfs L z hL
      exact ⟨hk, ⟨L, _, hf, hn, e, hd⟩, ih (fun b hb => hs b (by unfold frs; rw [List.filterMap_cons, hf]; exact List.mem_cons_of_mem _ hb)) hr⟩
  exact all X.outer (fun _ hb => hb) I.ok.funs

/-- the frames that run, for a call -/
theorem Inv.stack (I : Inv X pins σ H s) : s.heap.FunFrames X.base X.stack := by
  rcases I.ok.stk with e | ⟨e, hf⟩
  · rw [e]; exact I.funs
  · rw [e]
    obtain ⟨m, hn, _⟩ := I.loc
    refine .cons (by rw [I.ok.kind]; decide) hf hn ?_ I.funs
    exact Heap.get?_none_of_le (Nat.le_trans I.ok.bsz I.ok.above)
theorem Inv.stkSub (I : Inv X pins σ H s) : ∀ b ∈ frs X.stack, b ∈ X.env.locals :: X.fs := fun b hb => by
  rcases I.ok.stk with e | ⟨e, hf⟩
  · rw [e] at hb; exact List.mem_cons_of_mem _ hb
  · rw [e] at hb
    unfold frs at hb
    rw [List.filterMap_cons, hf] at hb
    exact hb
theorem Inv.stkFree (I : Inv X pins σ H s) : ∀ b ∈ frs X.stack, H b = none := fun b hb => by
  rcases List.mem_cons.mp (I.stkSub b hb) with e | hb
  · rw [e]; exact I.free
  · obtain ⟨_, o, ho, _⟩ := I.ok.funs.mem hb
    exact I.base.free b o ho (I.ok.frf b hb) fun z => I.ok.exfs b z hb

/-- THE STEP: the untracked objects but the frame and the records at ch are kept (the callers' frames up to slots), the frame's map is kept, the new abstract heap is held -/
theorem Inv.step {g' : Array GenState} {t' : Nat} {d' : Drawn} {ch : List Addr} (I : Inv X pins σ H s)
    (hch : ∀ b ∈ ch, (b ∈ X.ex ∨ X.s₀.heap.objs.size ≤ b) ∧ b ≠ X.env.locals ∧ (∀ x c, X.env.cells.lookup x = some c → c ≠ b) ∧ ∀ p ∈ X.pn ++ pins, p.1 ≠ b)
    (keep : ∀ b o, b ≠ X.env.locals → b ∉ X.fs → b ∉ ch → s.heap.get? b = some o → H b = none → h'.get? b = some o)
    (slot : ∀ b o, b ≠ X.env.locals → b ∈ X.fs → b ∉ ch → s.heap.get? b = some o → H b = none → ∃ sl, h'.get? b = some { o with slots := sl }) (free : ∀ b o, b ∉ ch → s.heap.get? b = some o → H b = none → H' b = none)
    (there : ∀ b o, b ∉ ch → s.heap.get? b = some o → ∃ o', h'.get? b = some o')
    (tups : ∀ b xs, H b = some (.tup xs) → H' b = some (.tup xs)) (frzs : ∀ b o u, H b = some (.frz o u) → H' b = some (.frz o u)) (tbls : ∀ b ps, H b = some (.tbl ps) → ∃ more, H' b = some (.tbl (ps ++ more)))
    (ns : ∀ m, s.heap.Ns X.env.locals m → h'.Ns X.env.locals m) (hok : HOk X.prog X.w H' h') (hg : AllBare g') :
    Inv X pins σ H' { s with heap := h', gens := g', drawn := d', toks := t' } := by
  have neL : ∀ b o, X.s₀.heap.get? b = some o → b ≠ X.env.locals := fun b o e => Nat.ne_of_lt (Nat.lt_of_lt_of_le (Heap.lt_size e) I.ok.above)
  have neC : ∀ b o, X.s₀.heap.get? b = some o → b ∉ X.ex → b ∉ ch := fun b o e hx hb => by
    rcases (hch b hb).1 with z | z
    · exact hx z
    · exact absurd (Nat.lt_of_lt_of_le (Heap.lt_size e) z) (Nat.lt_irrefl _)
  have cellK : ∀ x c, X.env.cells.lookup x = some c → ∀ v, s.heap.IsCell c v → h'.IsCell c v := fun x c e v ⟨o, ho, hd⟩ => by
    have nch : c ∉ ch := fun z => (hch c z).2.2.1 x c e rfl
    by_cases hc : c ∈ X.fs
    · obtain ⟨sl, q⟩ := slot c o (I.cne x c e) hc nch ho (I.freeC x c e)
      exact ⟨_, q, hd⟩
    · exact ⟨o, keep c o (I.cne x c e) hc nch ho (I.freeC x c e), hd⟩
  refine ⟨I.ok, I.os, hg, ⟨fun b o e n hb hx => ?_, fun b o e n hb hx => ?_, fun b o e n hx => ?_, fun b o e hx => ?_, fun b xs e => tups b xs (I.base.tups b xs e), fun b o xs e => frzs b o xs (I.base.frzs b o xs e), fun b ps e => ?_⟩, ?_, fun x c e => ?_, ?_, fun x c e => ?_, fun p hp => ?_, hok, I.len⟩
  · exact keep b o (neL b o e) hb (neC b o e hx) (I.base.keep b o e n hb hx) (I.base.free b o e n hx)
  · obtain ⟨sl, e1⟩ := I.base.slot b o e n hb hx
    obtain ⟨sl', e2⟩ := slot b _ (neL b o e) hb (neC b o e hx) e1 (I.base.free b o e n hx)
    exact ⟨sl', e2⟩
  · obtain ⟨o', e1⟩ := I.base.there b o e hx
    exact free b o' (neC b o e hx) e1 (I.base.free b o e n hx)
  · obtain ⟨o', e1⟩ := I.base.there b o e hx
    exact there b o' (neC b o e hx) e1
  · obtain ⟨m1, e1⟩ := I.base.tbls b ps e
    obtain ⟨m2, e2⟩ := tbls b _ e1
    exact ⟨m1 ++ m2, by rw [e2, Array.append_assoc]⟩
  · obtain ⟨m, hn, hl⟩ := I.loc
    refine ⟨m, ns m hn, fun i x v e1 e2 e3 => ?_⟩
    obtain ⟨u, r, l⟩ := hl i x v e1 e2 e3
    refine ⟨u, r, ?_⟩
    rcases l with l | ⟨k, c, e, z⟩
    · exact .inl l
    · exact .inr ⟨k, c, e, cellK x c e _ z⟩
  · obtain ⟨v, z⟩ := I.cell x c e
    exact ⟨v, cellK x c e v z⟩
  · obtain ⟨m, ⟨o, _, _, ho, _⟩, _⟩ := I.loc
    exact free _ o (fun z => (hch _ z).2.1 rfl) ho I.free
  · obtain ⟨v, o, ho, hd⟩ := I.cell x c e
    exact free c o (fun z => (hch c z).2.2.1 x c e rfl) ho (I.freeC x c e)
  · obtain ⟨e, n, ne, nf, d⟩ := I.pin p hp
    have nch : p.1 ∉ ch := fun z => (hch p.1 z).2.2.2 p hp rfl
    exact ⟨keep p.1 p.2 ne nf nch e n, free p.1 p.2 nch e n, ne, nf, d⟩
/-- .. where the frame's own object is kept too -/
theorem Inv.un {t' : Nat} (I : Inv X pins σ H s) (u : Un X.fs [] H H' s.heap h') (hok : HOk X.prog X.w H' h') : Inv X pins σ H' { s with heap := h', toks := t' } := by
  obtain ⟨m, ⟨o, es, ep, ho, r⟩, _⟩ := id I.loc
  obtain ⟨sl, hL⟩ := u.any ho I.free (by simp)
  exact I.step (g' := s.gens) (d' := s.drawn) (ch := []) (fun _ z => nomatch z) (fun b o _ hb _ e n => u.keep b o e n hb (by simp)) (fun b o _ hb _ e n => u.slot b o e n hb (by simp)) (fun b o _ e n => u.free b o e n (by simp)) (fun b o _ e => u.there b o e (by simp)) u.tups u.frzs u.tbls (fun m' hm => by
    obtain ⟨o', es', ep', ho', r'⟩ := hm
    rw [ho] at ho'; cases ho'
    exact ⟨_, es', ep', hL, r'⟩) hok I.bare
/-- behind a call (or a comprehension's block): the slots of this frame may have changed too, the records at ch may have turned -/
theorem Inv.call {g' : Array GenState} {t' : Nat} {d' : Drawn} {ch : List Addr} (I : Inv X pins σ H s) (u : Un (frs X.stack) ch H H' s.heap h') (hok : HOk X.prog X.w H' h') (hg : AllBare g')
    (hch : ∀ b ∈ ch, (b ∈ X.ex ∨ X.s₀.heap.objs.size ≤ b) ∧ b ≠ X.env.locals ∧ (∀ x c, X.env.cells.lookup x = some c → c ≠ b) ∧ ∀ p ∈ X.pn ++ pins, p.1 ≠ b) :
    Inv X pins σ H' { s with heap := h', gens := g', drawn := d', toks := t' } := by
  obtain ⟨m, ⟨o, es, ep, ho, r⟩, _⟩ := id I.loc
  obtain ⟨sl, hL⟩ := u.any ho I.free fun z => (hch _ z).2.1 rfl
  exact I.step (ch := ch) hch (fun b o hL hb hc e n => u.keep b o e n (fun z => (List.mem_cons.mp (I.stkSub b z)).elim hL hb) hc) (fun b o _ _ hc e n => u.any e n hc) (fun b o hc e n => u.free b o e n hc) (fun b o hc e => u.there b o e hc) u.tups u.frzs u.tbls (fun m' hm => by
    obtain ⟨o', es', ep', ho', r'⟩ := hm
    rw [ho] at ho'; cases ho'
    exact ⟨_, es', ep', hL, r'⟩) hok hg
/-- an untracked record of ours (an iterator) has turned -/
theorem Inv.turned {t' : Nat} {it : Addr} (I : Inv X pins σ H s) (k : ∀ b o, b ≠ it → s.heap.get? b = some o → h'.get? b = some o) (hn : H it = none) (hL : it ≠ X.env.locals)
    (h1 : it ∈ X.ex ∨ X.s₀.heap.objs.size ≤ it) (h2 : ∀ x c, X.env.cells.lookup x = some c → c ≠ it) (h3 : ∀ p ∈ X.pn ++ pins, p.1 ≠ it) : Inv X pins σ H { s with heap := h', toks := t' } := by
  have nit : ∀ b u, H b = some u → b ≠ it := fun b u e z => by rw [z, hn] at e; cases e
  refine I.step (g' := s.gens) (d' := s.drawn) (ch := [it]) (fun b hb => ?_) (fun b o _ _ hc e _ => k b o (fun z => hc (by simp [z])) e) (fun b o _ _ hc e _ => ⟨o.slots, k b o (fun z => hc (by simp [z])) e⟩) (fun _ _ _ _ n => n)
    (fun b o hc e => ⟨o, k b o (fun z => hc (by simp [z])) e⟩) (fun _ _ e => e) (fun _ _ _ e => e) (fun b ps e => ⟨#[], by rw [e]; simp⟩) (fun m hm => ?_) (fun b u e => ?_) I.bare
  · have e : b = it := by simpa using hb
    subst e
    exact ⟨h1, hL, h2, h3⟩
  · obtain ⟨o, es, ep, ho, r⟩ := hm
    exact ⟨o, es, ep, k _ o (Ne.symm hL) ho, r⟩
  · refine (I.hok b u e).stay (fun c v hc q => k c v ?_ q) (fun _ q => q) fun _ _ q => q
    rcases hc with z | z
    · rw [z]; exact nit b u e
    · exact nit c _ z
theorem Inv.tok (I : Inv X pins σ H s) (t : Nat) : Inv X pins σ H { s with toks := t } := I.un (h' := s.heap) (t' := t) Un.refl I.hok
/-- all objects kept -/
theorem Inv.kept {t' : Nat} (I : Inv X pins σ H s) (k : ∀ b u, s.heap.get? b = some u → h'.get? b = some u) : Inv X pins σ H { s with heap := h', toks := t' } := I.un (Un.kept k) (I.hok.kept k)
/-- a new object laid and tracked -/
theorem Inv.laid {a : Addr} {o : HO} {t' : Nat} (I : Inv X pins σ H s) (k : ∀ b u, s.heap.get? b = some u → h'.get? b = some u) (hp : s.heap.objs.size ≤ a) (new : ObjOk X.prog X.w (upd H a o) h' a o) :
    Inv X pins σ (upd H a o) { s with heap := h', toks := t' } := I.un (Un.laid k hp (I.hok.fresh hp)) (I.hok.laid k hp new)
/-- an object written -/
theorem Inv.write {x e : Addr} {o : HO} {t' : Nat} (I : Inv X pins σ H s) (mu : Mut (H x)) (he : e = x ∨ H e = some (.own x)) (k : ∀ b u, b ≠ e → s.heap.get? b = some u → h'.get? b = some u) (heo : ∃ u, h'.get? e = some u)
    (new : ObjOk X.prog X.w (upd H x o) h' x o) : Inv X pins σ (upd H x o) { s with heap := h', toks := t' } := I.un (Un.write mu he k heo) (I.hok.write mu he k heo new)
theorem Inv.pins_of {pins' : List (Addr × Obj)} (I : Inv X pins σ H s) (h : ∀ p ∈ pins', s.heap.get? p.1 = some p.2 ∧ H p.1 = none ∧ p.1 ≠ X.env.locals ∧ p.1 ∉ X.fs ∧ ∀ v, p.2.data ≠ .cell v) : Inv X pins' σ H s :=
  ⟨I.ok, I.os, I.bare, I.base, I.loc, I.cell, I.free, I.freeC, fun p hp => (List.mem_append.mp hp).elim (fun z => I.pin p (List.mem_append_left _ z)) (h p), I.hok, I.len⟩

theorem nodup_ix {N : List Str} (hN : N.Nodup) {i j : Nat} {x : Str} (a : N[i]? = some x) (b : N[j]? = some x) : i = j := by
  obtain ⟨h1, e1⟩ := List.getElem?_eq_some_iff.mp a
  obtain ⟨h2, e2⟩ := List.getElem?_eq_some_iff.mp b
  exact (List.getElem_inj hN).mp (e1.trans e2.symm)

/-- a name is stored; what changed -/
theorem store_ok2 {M : Model} {A : Around} {E : Value → Shared → Prop} {i : Nat} {x : Str} {v : V} {u : Value} {Q : Unit → Shared → Prop} (I : Inv X pins σ H s) (hN : X.N.Nodup) (hi : X.N[i]? = some x) (hx : Loc X.env.scope x) (r : RelV v u)
    (h : ∀ s', Inv X pins (σ.set i (some v)) H s' → (∃ a, Heap.SameBut a s.heap s'.heap ∧ (a = X.env.locals ∨ X.env.cells.lookup x = some a)) → Q () s') (hf : X.fn x = true ∨ X.env.scope.names.lookup x = some .local := by first | exact .inl rfl | exact .inr rfl | assumption) : wpAny M A (storeName X.env x u) Q E s := by
  obtain ⟨m, hn, hl⟩ := id I.loc
  have hcls : (X.env.scope.kind == .class || (X.env.scope.kind == .module && X.env.locals != X.env.globals)) = false := by rw [I.ok.kind]; rfl
  have hiσ : i < σ.length := by rw [I.len]; exact (List.getElem?_eq_some_iff.mp hi).1
  have cne := I.cne
  have tracked : ∀ {a : Addr} {h' : Heap}, (∃ o, s.heap.get? a = some o ∧ H a = none) → Heap.SameBut a s.heap h' → HOk X.prog X.w H h' := fun {a h'} ha hs b ob e => by
    obtain ⟨_, _, hfree⟩ := ha
    refine (I.hok b ob e).stay (fun c w' hc q => (hs.2 c ?_).trans q) (fun _ q => q) fun _ _ q => q
    rintro rfl
    rcases hc with rfl | hc
    · rw [hfree] at e; cases e
    · rw [hfree] at hc; cases hc
  rcases hx with hk | hk
  · refine wpAny_storeName_local hk hn (fun h' hn' hs => ?_) hcls
    obtain ⟨oL, _, _, hoL, _⟩ := id hn
    refine h _ ⟨I.ok, I.os, I.bare, ⟨fun b o e n hb hx => ?_, fun b o e n hb hx => ?_, I.base.free, fun b o e hx => ?_, I.base.tups, I.base.frzs, I.base.tbls⟩, ⟨_, hn', fun j y v' e1 e2 e3 => ?_⟩, fun y c e => ?_, I.free, I.freeC, fun p hp => ?_, tracked ⟨oL, hoL, I.free⟩ hs, by simpa using I.len⟩ ⟨_, hs, .inl rfl⟩
    · exact (hs.2 b (Nat.ne_of_lt (Nat.lt_of_lt_of_le (Heap.lt_size e) I.ok.above))).trans (I.base.keep b o e n hb hx)
    · obtain ⟨sl, e1⟩ := I.base.slot b o e n hb hx
      exact ⟨sl, (hs.2 b (Nat.ne_of_lt (Nat.lt_of_lt_of_le (Heap.lt_size e) I.ok.above))).trans e1⟩
    · obtain ⟨o', e1⟩ := I.base.there b o e hx
      exact ⟨o', (hs.2 b (Nat.ne_of_lt (Nat.lt_of_lt_of_le (Heap.lt_size e) I.ok.above))).trans e1⟩
    · by_cases hj : j = i
      · subst hj
        rw [hi] at e1; cases e1
        rw [List.getElem?_set_self hiσ] at e2
        cases e2
        exact ⟨u, r, .inl ⟨hk, by simp⟩⟩
      · rw [List.getElem?_set_ne (Ne.symm hj)] at e2
        obtain ⟨u', r', q⟩ := hl j y v' e1 e2 e3
        refine ⟨u', r', ?_⟩
        rcases q with ⟨k, e⟩ | ⟨k, c, e, z⟩
        · refine .inl ⟨k, ?_⟩
          have : y ≠ x := fun e => hj (nodup_ix hN e1 (e ▸ hi))
          simp [this, e]
        · exact .inr ⟨k, c, e, z.sameBut hs (cne y c e)⟩
    · obtain ⟨w', z⟩ := I.cell y c e
      exact ⟨w', z.sameBut hs (cne y c e)⟩
    · obtain ⟨e, n, ne, nf, d⟩ := I.pin p hp
      exact ⟨(hs.2 p.1 ne).trans e, n, ne, nf, d⟩
  · have hfn : X.fn x = true := by
      rcases hf with z | z
      · exact z
      · rw [z] at hk; cases hk
    obtain ⟨c, hc⟩ := I.ok.has x (.inl hk)
    obtain ⟨w', z⟩ := I.cell x c hc
    refine wpAny_storeName_cell I.ok.kind hk hc z (fun h' hc' hs => ?_)
    obtain ⟨oc, hoc, hocd⟩ := id z
    refine h { s with heap := h' } ⟨I.ok, I.os, I.bare, ⟨fun b o e n hb hx => ?_, fun b o e n hb hx => ?_, I.base.free, fun b o e hx => ?_, I.base.tups, I.base.frzs, I.base.tbls⟩, ⟨m, hn.sameBut hs (Ne.symm (cne x c hc)), fun j y v' e1 e2 e3 => ?_⟩, fun y c' e => ?_, I.free, I.freeC, fun p hp => ?_, tracked ⟨oc, hoc, I.freeC x c hc⟩ hs, by simpa using I.len⟩ ⟨c, hs, .inr hc⟩
    · exact (hs.2 b (Nat.ne_of_lt (Nat.lt_of_lt_of_le (Heap.lt_size e) (I.ok.cab x c hfn hc)))).trans (I.base.keep b o e n hb hx)
    · obtain ⟨sl, e1⟩ := I.base.slot b o e n hb hx
      exact ⟨sl, (hs.2 b (Nat.ne_of_lt (Nat.lt_of_lt_of_le (Heap.lt_size e) (I.ok.cab x c hfn hc)))).trans e1⟩
    · obtain ⟨o', e1⟩ := I.base.there b o e hx
      exact ⟨o', (hs.2 b (Nat.ne_of_lt (Nat.lt_of_lt_of_le (Heap.lt_size e) (I.ok.cab x c hfn hc)))).trans e1⟩
    · by_cases hj : j = i
      · subst hj
        rw [hi] at e1; cases e1
        rw [List.getElem?_set_self hiσ] at e2
        cases e2
        exact ⟨u, r, .inr ⟨.inl hk, c, hc, hc'⟩⟩
      · rw [List.getElem?_set_ne (Ne.symm hj)] at e2
        obtain ⟨u', r', q⟩ := hl j y v' e1 e2 e3
        refine ⟨u', r', ?_⟩
        rcases q with q | ⟨k, c', e, z'⟩
        · exact .inl q
        · refine .inr ⟨k, c', e, z'.sameBut hs ?_⟩
          rintro rfl
          exact hj (nodup_ix hN e1 (I.ok.inj _ _ _ e hc ▸ hi))
    · by_cases hcc : c' = c
      · subst hcc; exact ⟨_, hc'⟩
      · obtain ⟨w2, z2⟩ := I.cell y c' e
        exact ⟨w2, z2.sameBut hs hcc⟩
    · obtain ⟨e, n, ne, nf, d⟩ := I.pin p hp
      refine ⟨(hs.2 p.1 ?_).trans e, n, ne, nf, d⟩
      intro q
      rw [q, hoc] at e
      have q' : oc = p.2 := Option.some.inj e
      exact d w' (by rw [← q']; exact hocd)
theorem store_ok {M : Model} {A : Around} {E : Value → Shared → Prop} {i : Nat} {x : Str} {v : V} {u : Value} {Q : Unit → Shared → Prop} (I : Inv X pins σ H s) (hN : X.N.Nodup) (hi : X.N[i]? = some x) (hx : Loc X.env.scope x) (r : RelV v u)
    (h : ∀ s', Inv X pins (σ.set i (some v)) H s' → Q () s') (hf : X.fn x = true ∨ X.env.scope.names.lookup x = some .local := by first | exact .inl rfl | exact .inr rfl | assumption) : wpAny M A (storeName X.env x u) Q E s :=
  store_ok2 I hN hi hx r (fun s' I' _ => h s' I') hf
/-- behind a call or a block, the state as it is -/
theorem Inv.call' {s' : Shared} {ch : List Addr} (I : Inv X pins σ H s) (ho : s'.os = s.os) (u : Un (frs X.stack) ch H H' s.heap s'.heap) (hok : HOk X.prog X.w H' s'.heap) (hg : AllBare s'.gens)
    (hch : ∀ b ∈ ch, (b ∈ X.ex ∨ X.s₀.heap.objs.size ≤ b) ∧ b ≠ X.env.locals ∧ (∀ x c, X.env.cells.lookup x = some c → c ≠ b) ∧ ∀ p ∈ X.pn ++ pins, p.1 ≠ b) : Inv X pins σ H' s' := by
  obtain ⟨h', g', d', t', o'⟩ := s'
  have e : o' = s.os := ho
  subst e
  exact I.call (g' := g') (t' := t') (d' := d') u hok hg hch
end

/-! ### the judgements -/
/-- an exception: its class, its own dict's address (where it has one), the abstract heap behind it -/
abbrev XK := Value → Option Addr → Hp → Prop
abbrev St := List (Option V)
abbrev VK := V → Hp → Prop
/-- an expression's reading; a test's; an argument list's -/
abbrev TE := St → Hp → VK → Prop
abbrev TT := St → Hp → (Bool → Hp → Prop) → Prop
abbrev TA := St → Hp → (List V → Hp → Prop) → Prop
/-- what is wanted behind a statement -/
structure Ends where
  nx : St → Hp → Prop
  rt : VK
  bk : St → Hp → Prop := fun _ _ => False
  ct : St → Hp → Prop := fun _ _ => False
abbrev TS := Ends → St → Hp → Prop

def EP (X : Cx) (pins : List (Addr × Obj)) (σ : St) (Q : VK) (u : Value) (s' : Shared) : Prop := ∃ v H', Inv X pins σ H' s' ∧ RelV v u ∧ Q v H'
def TP (X : Cx) (pins : List (Addr × Obj)) (σ : St) (Q : Bool → Hp → Prop) (b : Bool) (s' : Shared) : Prop := ∃ H', Inv X pins σ H' s' ∧ Q b H'
def AP (X : Cx) (pins : List (Addr × Obj)) (σ : St) (Q : List V → Hp → Prop) (us : List Value) (s' : Shared) : Prop := ∃ vs H', Inv X pins σ H' s' ∧ Vals vs us ∧ Q vs H'
def SP (X : Cx) (pins : List (Addr × Obj)) (D : Ends) (f : Flow) (s' : Shared) : Prop :=
  match f with
  | .next => ∃ σ' H', Inv X pins σ' H' s' ∧ D.nx σ' H'
  | .brk => ∃ σ' H', Inv X pins σ' H' s' ∧ D.bk σ' H'
  | .cont => ∃ σ' H', Inv X pins σ' H' s' ∧ D.ct σ' H'
  | .ret u => ∃ v σ' H', Inv X pins σ' H' s' ∧ RelV v u ∧ D.rt v H'

def PE (X : Cx) (e : Expr) (t : TE) : Prop :=
  ∀ (pins : List (Addr × Obj)) (s : Shared) (σ : St) (H : Hp) (Q : VK), Inv X pins σ H s → t σ H Q → wpAny (model X.prog X.w) X.A (eval e X.env) (EP X pins σ Q) X.xe s
def PT (X : Cx) (e : Expr) (t : TT) : Prop :=
  ∀ (pins : List (Addr × Obj)) (s : Shared) (σ : St) (H : Hp) (Q : Bool → Hp → Prop), Inv X pins σ H s → t σ H Q → wpAny (model X.prog X.w) X.A (isTrue e X.env (eval e X.env)) (TP X pins σ Q) X.xe s
/-- a test whatever its 'whole' is (and, or) -/
def PW (X : Cx) (e : Expr) (t : TT) : Prop :=
  ∀ (whole : Sem Value) (pins : List (Addr × Obj)) (s : Shared) (σ : St) (H : Hp) (Q : Bool → Hp → Prop), Inv X pins σ H s → t σ H Q → wpAny (model X.prog X.w) X.A (isTrue e X.env whole) (TP X pins σ Q) X.xe s
theorem PW.pt {X : Cx} {e : Expr} {t : TT} (h : PW X e t) : PT X e t := h _
/-- an argument list (no star), from the left -/
def PA (X : Cx) (es : List Expr) (t : TA) : Prop :=
  ∀ (pos : Pos) (pins : List (Addr × Obj)) (s : Shared) (σ : St) (H : Hp) (Q : List V → Hp → Prop), Inv X pins σ H s → t σ H Q → wpAny (model X.prog X.w) X.A (spliced (backTo pos (starEach es X.env))) (AP X pins σ Q) X.xe s
def PS (X : Cx) (st : Stmt) (t : TS) : Prop :=
  ∀ (pins : List (Addr × Obj)) (s : Shared) (σ : St) (H : Hp) (D : Ends), Inv X pins σ H s → t D σ H → wpAny (model X.prog X.w) X.A (exec st X.env) (SP X pins D) X.xe s
def PSs (X : Cx) (st : List Stmt) (t : TS) : Prop :=
  ∀ (pins : List (Addr × Obj)) (s : Shared) (σ : St) (H : Hp) (D : Ends), Inv X pins σ H s → t D σ H → wpAny (model X.prog X.w) X.A (execs st X.env) (SP X pins D) X.xe s
/-- weaken the end -/
theorem thn {α : Type} {t : Sem α} {Q Q' : α → Shared → Prop} {M : Model} {A : Around} {E : Value → Shared → Prop} {s : Shared} (h : wpAny M A t Q E s) (hQ : ∀ a s, Q a s → Q' a s) : wpAny M A t Q' E s := wpAny_mono h hQ fun _ _ x => x
end L2

namespace L2
open PySem PySem.Spec PyProof.Rows
section
variable {X : Cx}

/-! ### names and constants -/
def tVar (i : Nat) : TE := fun σ H Q => ∃ v, σ[i]? = some (some v) ∧ Q v H
def tC (v : V) : TE := fun _ H Q => Q v H
theorem pe_var {i : Nat} {x : Str} {pos : Pos} (hN : X.N[i]? = some x) (hv : Vis X.env.scope x) (hd : (x == ("__debug__" : Str)) = false := by decide) (hcd : (x == ("__classdict__" : Str)) = false := by decide) : PE X (.Name x pos) (tVar i) := by
  intro pins s σ H Q I h
  obtain ⟨v, e, h⟩ := h
  obtain ⟨m, hn, hl⟩ := I.loc
  obtain ⟨u, r, l⟩ := hl i x v hN e hv
  have fin : EP X pins σ Q u s := ⟨v, H, I, r, h⟩
  rcases l with ⟨hk, hm⟩ | ⟨hk, c, hc, hcell⟩
  · exact wpAny_Name (wpAny_loadName_local I.ok.kind hk hn hm fin) hd
  · rcases hk with hk | hk
    · exact wpAny_Name (wpAny_loadName_cell I.ok.kind hk hc hcell fin) hd
    · exact wpAny_Name (wpAny_loadName_free I.ok.kind hk hc hcell fin hcd) hd
theorem pe_int {i j pos} : PE X (.Constant (.int i) j pos) (tC (.int i)) := fun _ _ _ H _ I h => wpAny_Constant_int ⟨.int i, H, I.tok _, ⟨_, rfl⟩, h⟩
theorem pe_bl {b j pos} : PE X (.Constant (.bool b) j pos) (tC (.bl b)) := fun _ _ _ H _ I h => Constant_bool ⟨.bl b, H, I, rfl, h⟩
/-- a global name of the def -/
def Gl (X : Cx) (x : Str) : Prop := X.env.kindOf x = some .globalImplicit
theorem ld_glob {E : Value → Shared → Prop} {pins : List (Addr × Obj)} {s : Shared} {σ : St} {H : Hp} {x : Str} {u : Value} {pos : Pos} {Q : Value → Shared → Prop} (I : Inv X pins σ H s) (hg : Gl X x) (hm : X.mg x = some u) (h : Q u s)
    (hd : (x == ("__debug__" : Str)) = false := by decide) : wpAny (model X.prog X.w) X.A (eval (.Name x pos) X.env) Q E s :=
  Calls.Name_function_global I.ok.kind hg (Calls.loadGlobal_global (by rw [I.ok.glob]; exact I.mod.glob.keeps I.bk) hm h) hd
theorem ld_blt {E : Value → Shared → Prop} {pins : List (Addr × Obj)} {s : Shared} {σ : St} {H : Hp} {x : Str} {u : Value} {pos : Pos} {Q : Value → Shared → Prop} (I : Inv X pins σ H s) (hg : Gl X x) (hm : X.mg x = none) (hv : bootBuiltins x = some u) (h : Q u s)
    (hn : x ≠ "__name__" := by decide) (hd : (x == ("__debug__" : Str)) = false := by decide) : wpAny (model X.prog X.w) X.A (eval (.Name x pos) X.env) Q E s := by
  obtain ⟨mb, h1, h2⟩ := I.mod.blt
  exact Calls.Name_function_global I.ok.kind hg (Calls.loadGlobal_builtin (by rw [I.ok.glob]; exact I.mod.glob.keeps I.bk) hm (by rw [I.ok.blt]; exact h1.keeps I.bk) ((h2 x hn).trans hv) h) hd
/-- a module's constant, a class, a function, as a value -/
theorem pe_glob {x : Str} {v : V} {u : Value} {pos : Pos} (hg : Gl X x) (hm : X.mg x = some u) (r : RelV v u) (hd : (x == ("__debug__" : Str)) = false := by decide) : PE X (.Name x pos) (tC v) :=
  fun _ _ _ H _ I h => ld_glob I hg hm ⟨v, H, I, r, h⟩ hd
theorem pe_bltn {x : Str} {v : V} {u : Value} {pos : Pos} (hg : Gl X x) (hm : X.mg x = none) (hv : bootBuiltins x = some u) (r : RelV v u) (hn : x ≠ "__name__" := by decide) (hd : (x == ("__debug__" : Str)) = false := by decide) : PE X (.Name x pos) (tC v) :=
  fun _ _ _ H _ I h => ld_blt I hg hm hv ⟨v, H, I, r, h⟩ hn hd

/-! ### arithmetic -/
/-- two ints -/
def t2I (ta tb : TE) (k : Int → Int → Hp → Prop) : St → Hp → Prop := fun σ H => ta σ H fun x H1 => tb σ H1 fun y H2 => ∃ i j, x = .int i ∧ y = .int j ∧ k i j H2
def tAdd (ta tb : TE) : TE := fun σ H Q => t2I ta tb (fun i j H2 => Q (.int (i + j)) H2) σ H
def tSub (ta tb : TE) : TE := fun σ H Q => t2I ta tb (fun i j H2 => Q (.int (i - j)) H2) σ H
/-- the left factor below 2^64 -/
def tMul (ta tb : TE) : TE := fun σ H Q => t2I ta tb (fun i j H2 => (-(2 ^ 64) < i ∧ i < 2 ^ 64) ∧ Q (.int (i * j)) H2) σ H
variable {a b : Expr} {ta tb : TE} {pos : Pos}
/-! ### comparisons -/
def PC (X : Cx) (op : CmpOp) (a b : Expr) (t : TE) : Prop :=
  ∀ (pins : List (Addr × Obj)) (s : Shared) (σ : St) (H : Hp) (Q : VK), Inv X pins σ H s → t σ H Q →
    wpAny (model X.prog X.w) X.A (eval a X.env) (fun v s₁ => wpAny (model X.prog X.w) X.A (eval b X.env) (fun u s₂ => wpAny (model X.prog X.w) X.A (compareOp op v u) (EP X pins σ Q) X.xe s₂) X.xe s₁) X.xe s
def tCmp (p : Int → Int → Bool) (ta tb : TE) : TE := fun σ H Q => t2I ta tb (fun i j H2 => Q (.bl (p i j)) H2) σ H
abbrev tLt : TE → TE → TE := tCmp fun i j => decide (i < j)
abbrev tLe : TE → TE → TE := tCmp fun i j => decide (i ≤ j)
abbrev tGt : TE → TE → TE := tCmp fun i j => decide (j < i)
abbrev tGe : TE → TE → TE := tCmp fun i j => decide (j ≤ i)
abbrev tEqI : TE → TE → TE := tCmp fun i j => decide (i = j)
abbrev tNeI : TE → TE → TE := tCmp fun i j => !decide (i = j)
/-- is None -/
def tIsN (ta : TE) : TE := fun σ H Q => ta σ H fun x H1 => Q (.bl (decide (x = .non))) H1
def tNotN (ta : TE) : TE := fun σ H Q => ta σ H fun x H1 => Q (.bl (!decide (x = .non))) H1
/-- a comparison as a value, as a test -/
def tB (t : TE) : TT := fun σ H Q => t σ H fun x H1 => ∃ c, x = .bl c ∧ Q c H1
/-- an expression whose value is a bool, as a test -/
theorem pt_val {e : Expr} {t : TE} (h : PE X e t) (he : ∀ whole, isTrue e X.env whole = (do let v ← whole; standAt e.pos; holding [v] (truthy v)) := by intro _; rfl) : PT X e (tB t) := by
  intro pins s σ H Q I hw
  refine isTrue_plain (thn (h pins s σ H _ I hw) fun v s1 ⟨x, H1, I1, r1, q1⟩ => ?_) (he _)
  obtain ⟨d, rfl, q⟩ := q1
  cases r1
  exact wpAny_truthy_bool ⟨H1, I1, q⟩

/-! ### and, or, not -/
variable {tA tB' : TT} {rest : List Expr}
def tAnd (t u : TT) : TT := fun σ H Q => t σ H fun c H1 => if c = true then u σ H1 Q else Q false H1
def tOr (t u : TT) : TT := fun σ H Q => t σ H fun c H1 => if c = true then Q true H1 else u σ H1 Q
def tNot (t : TT) : TT := fun σ H Q => t σ H fun c H1 => Q (!c) H1
theorem pw_and1 (ha : PT X a tA) : PW X (.BoolOp .And [a] pos) tA := by
  intro wh pins s σ H Q I h
  refine isTrue_and (thn (ha pins s σ H Q I h) fun c s1 e => ?_)
  cases c with
  | true => exact isTrue_and_nil e
  | false => exact e
theorem pw_or1 (ha : PT X a tA) : PW X (.BoolOp .Or [a] pos) tA := by
  intro wh pins s σ H Q I h
  refine isTrue_or (thn (ha pins s σ H Q I h) fun c s1 e => ?_)
  cases c with
  | false => exact isTrue_or_nil e
  | true => exact e
theorem pw_and (ha : PT X a tA) (hb : PW X (.BoolOp .And (b :: rest) pos) tB') : PW X (.BoolOp .And (a :: b :: rest) pos) (tAnd tA tB') := by
  intro wh pins s σ H Q I h
  refine isTrue_and (thn (ha pins s σ H _ I h) fun c s1 ⟨H1, I1, q1⟩ => ?_)
  cases c with
  | true => exact hb wh pins s1 σ H1 Q I1 q1
  | false => exact ⟨H1, I1, q1⟩
theorem pw_or (ha : PT X a tA) (hb : PW X (.BoolOp .Or (b :: rest) pos) tB') : PW X (.BoolOp .Or (a :: b :: rest) pos) (tOr tA tB') := by
  intro wh pins s σ H Q I h
  refine isTrue_or (thn (ha pins s σ H _ I h) fun c s1 ⟨H1, I1, q1⟩ => ?_)
  cases c with
  | true => exact ⟨H1, I1, q1⟩
  | false => exact hb wh pins s1 σ H1 Q I1 q1
theorem pt_not (ha : PT X a tA) : PT X (.UnaryOp .Not a pos) (tNot tA) := by
  intro pins s σ H Q I h
  exact isTrue_not (ha pins s σ H (fun c H1 => Q (!c) H1) I h)
/-- .. as values (bools) -/
def tAndV (ta tb : TE) : TE := fun σ H Q => ta σ H fun x H1 => ∃ c, x = .bl c ∧ if c = true then tb σ H1 Q else Q (.bl false) H1
def tOrV (ta tb : TE) : TE := fun σ H Q => ta σ H fun x H1 => ∃ c, x = .bl c ∧ if c = true then Q (.bl true) H1 else tb σ H1 Q
def tNotV (ta : TE) : TE := fun σ H Q => ta σ H fun x H1 => ∃ c, x = .bl c ∧ Q (.bl (!c)) H1
theorem pe_one {op} {t : TE} (h : PE X a t) : PE X (.BoolOp op [a] pos) t := fun pins s σ H Q I hw => BoolOp_one (h pins s σ H Q I hw)
theorem pe_and (ha : PE X a ta) (hb : PE X (.BoolOp .And (b :: rest) pos) tb) : PE X (.BoolOp .And (a :: b :: rest) pos) (tAndV ta tb) := by
  intro pins s σ H Q I h
  refine BoolOp_and (thn (ha pins s σ H _ I h) fun v s1 ⟨x, H1, I1, r1, q1⟩ => ?_)
  obtain ⟨c, rfl, q1⟩ := q1
  cases r1
  refine wpAny_truthy_bool ?_
  cases c with
  | true => exact hb pins s1 σ H1 Q I1 q1
  | false => exact ⟨.bl false, H1, I1, rfl, q1⟩
theorem pe_not (ha : PE X a ta) : PE X (.UnaryOp .Not a pos) (tNotV ta) := by
  intro pins s σ H Q I h
  refine UnaryOp_ (thn (ha pins s σ H _ I h) fun v s1 ⟨x, H1, I1, r1, q1⟩ => ?_)
  obtain ⟨c, rfl, q1⟩ := q1
  cases r1
  exact not_of (wpAny_truthy_bool ⟨.bl (!c), H1, I1, rfl, q1⟩)
/-- a if t else b -/
def tIf (t : TT) (ta tb : TE) : TE := fun σ H Q => t σ H fun c H1 => if c = true then ta σ H1 Q else tb σ H1 Q
theorem pe_ifExp {c : Expr} (hc : PT X c tA) (ha : PE X a ta) (hb : PE X b tb) : PE X (.IfExp c a b pos) (tIf tA ta tb) := by
  intro pins s σ H Q I h
  refine wpAny_IfExp (thn (hc pins s σ H _ I h) fun d s1 ⟨H1, I1, q1⟩ => ?_)
  cases d with
  | true => exact ha pins s1 σ H1 Q I1 q1
  | false => exact hb pins s1 σ H1 Q I1 q1
end
end L2

namespace L2
open PySem PySem.Spec PyProof.Rows

/-! ### a list, a tuple that is read: tracked, frozen, or an object of the module -/
def SqL (K : PySem.W.Frag) (H : Hp) (a : Addr) (xs : List V) : Prop :=
  Rd H a (.lst xs) ∨
    ∃ (o : Obj) (its : Array Value) (n : Nat), K.lookup a = some o ∧ o.cls = .type "list" ∧ o.dict = none ∧ o.data = .seq its n ∧ its.size ≤ sizeLine ∧ Vals xs its.toList
def SqT (K : PySem.W.Frag) (H : Hp) (a : Addr) (xs : List V) : Prop :=
  Rd H a (.tup xs) ∨
    ∃ (o : Obj) (its : Array Value) (n : Nat), K.lookup a = some o ∧ o.cls = .type "tuple" ∧ o.data = .seq its n ∧ its.size ≤ sizeLine ∧ Vals xs its.toList
def absV : Value → Option V
  | .none => some .non
  | .bool b => some (.bl b)
  | .int i _ => some (.int i)
  | .str x _ => some (.str x)
  | .bytes b _ => some (.byt b)
  | .float b _ => some (.flt b)
  | .ref a => some (.ref a)
  | .type n => some (.ty n)
  | _ => none
theorem RelV.abs {x : V} {u : Value} (r : RelV x u) : absV u = some x := by
  cases x with
  | non => cases r; rfl
  | bl _ => cases r; rfl
  | int _ => obtain ⟨t, rfl⟩ := r; rfl
  | str _ => obtain ⟨t, rfl⟩ := r; rfl
  | byt _ => obtain ⟨t, rfl⟩ := r; rfl
  | flt _ => obtain ⟨t, rfl⟩ := r; rfl
  | ref _ => cases r; rfl
  | ty _ => cases r; rfl
theorem RelV.inj {x y : V} {u : Value} (r : RelV x u) (q : RelV y u) : x = y := Option.some.inj (r.abs.symm.trans q.abs)
theorem Vals.inj : ∀ {xs ys : List V} {us : List Value}, Vals xs us → Vals ys us → xs = ys
  | _, _, _, .nil, .nil => rfl
  | _, _, _, .cons r t, .cons r' t' => by rw [r.inj r', Vals.inj t t']
section
variable {X : Cx} {pins : List (Addr × Obj)} {σ : St} {H : Hp} {s : Shared} {a : Addr} {xs ys : List V}
theorem SqL.of {K : PySem.W.Frag} (h : H a = some (.lst xs)) : SqL K H a xs := .inl (.inl h)
theorem SqT.of {K : PySem.W.Frag} (h : H a = some (.tup xs)) : SqT K H a xs := .inl (.inl h)
theorem Inv.list (I : Inv X pins σ H s) (h : SqL X.K H a xs) : ∃ its : List Value, Vals xs its ∧ PlainL s.heap a its.toArray ∧ xs.length ≤ sizeLine := by
  rcases h with h | ⟨o, its, n, hk, hc, hd, hs, hz, r⟩
  · obtain ⟨z, its, n, r, e⟩ := h.ok I.hok
    exact ⟨its, r, ⟨_, n, e, rfl, rfl, rfl⟩, z⟩
  · refine ⟨its.toList, r, ⟨o, n, I.kIn a o hk, hc, hd, by simpa using hs⟩, ?_⟩
    have e := r.length
    simp only [Array.length_toList] at e
    omega
theorem Inv.tuple (I : Inv X pins σ H s) (h : SqT X.K H a xs) : ∃ its : List Value, Vals xs its ∧ IsTup s.heap a its.toArray ∧ xs.length ≤ sizeLine := by
  rcases h with h | ⟨o, its, n, hk, hc, hs, hz, r⟩
  · obtain ⟨z, its, r, p⟩ := h.ok I.hok
    exact ⟨its, r, p, z⟩
  · refine ⟨its.toList, r, ⟨o, I.kIn a o hk, hc, n, by simpa using hs⟩, ?_⟩
    have e := r.length
    simp only [Array.length_toList] at e
    omega
theorem Inv.list_inj (I : Inv X pins σ H s) (h : SqL X.K H a xs) (h' : SqL X.K H a ys) : xs = ys := by
  obtain ⟨its, r, ⟨o, n, e, _, _, d⟩, _⟩ := I.list h
  obtain ⟨its', r', ⟨o', n', e', _, _, d'⟩, _⟩ := I.list h'
  rw [e] at e'; cases e'
  rw [d] at d'
  injection d' with d1 _
  have : its = its' := by simpa using congrArg Array.toList d1
  subst this
  exact r.inj r'
end

/-! ### another wish about exceptions -/
abbrev Cx.wish (X : Cx) (E : Value → Shared → Prop) : Cx := { X with xe := E }
/-- no exception leaves -/
abbrev Cx.nox (X : Cx) : Cx := X.wish fun _ _ => False
theorem Cx.Ok.wish {X : Cx} (ok : X.Ok) (E : Value → Shared → Prop) : (X.wish E).Ok :=
  ⟨ok.mod, ok.kind, ok.glob, ok.blt, ok.above, ok.inj, ok.has, ok.cab, ok.hd, ok.frames, ok.stk, ok.exf, ok.bs, ok.bsz, ok.noex, ok.exfs, ok.funs, ok.frf⟩
theorem Cx.Ok.unwish {X : Cx} {E : Value → Shared → Prop} (ok : (X.wish E).Ok) : X.Ok :=
  ⟨ok.mod, ok.kind, ok.glob, ok.blt, ok.above, ok.inj, ok.has, ok.cab, ok.hd, ok.frames, ok.stk, ok.exf, ok.bs, ok.bsz, ok.noex, ok.exfs, ok.funs, ok.frf⟩
section
variable {X : Cx} {pins : List (Addr × Obj)} {σ : St} {H : Hp} {s : Shared} {E : Value → Shared → Prop}
theorem Inv.wish (I : Inv X pins σ H s) (E : Value → Shared → Prop) : Inv (X.wish E) pins σ H s := ⟨I.ok.wish E, I.os, I.bare, I.base, I.loc, I.cell, I.free, I.freeC, I.pin, I.hok, I.len⟩
theorem Inv.unwish (I : Inv (X.wish E) pins σ H s) : Inv X pins σ H s := ⟨I.ok.unwish, I.os, I.bare, I.base, I.loc, I.cell, I.free, I.freeC, I.pin, I.hok, I.len⟩
theorem SP.unwish {D : Ends} {f : Flow} {s' : Shared} (h : SP (X.wish E) pins D f s') : SP X pins D f s' := by
  cases f with
  | next => obtain ⟨σ', H', I, q⟩ := h; exact ⟨σ', H', I.unwish, q⟩
  | brk => obtain ⟨σ', H', I, q⟩ := h; exact ⟨σ', H', I.unwish, q⟩
  | cont => obtain ⟨σ', H', I, q⟩ := h; exact ⟨σ', H', I.unwish, q⟩
  | ret u => obtain ⟨v, σ', H', I, r, q⟩ := h; exact ⟨v, σ', H', I.unwish, r, q⟩
theorem PE.nox {e : Expr} {t : TE} (h : PE X.nox e t) : PE X e t := fun pins s σ H Q I hw =>
  wpAny_mono (h pins s σ H Q (I.wish _) hw) (fun _ _ ⟨v, H', I', r, q⟩ => ⟨v, H', I'.unwish, r, q⟩) fun _ _ z => False.elim z
theorem PT.nox {e : Expr} {t : TT} (h : PT X.nox e t) : PT X e t := fun pins s σ H Q I hw =>
  wpAny_mono (h pins s σ H Q (I.wish _) hw) (fun _ _ ⟨H', I', q⟩ => ⟨H', I'.unwish, q⟩) fun _ _ z => False.elim z
theorem PSs.nox {st : List Stmt} {t : TS} (h : PSs X.nox st t) : PSs X st t := fun pins s σ H D I hw =>
  wpAny_mono (h pins s σ H D (I.wish _) hw) (fun _ _ q => q.unwish) fun _ _ z => False.elim z
end

/-! ### blocks and small statements -/
section
variable {X : Cx} {st : Stmt} {rest : List Stmt} {t u : TS} {e : Expr} {te : TE} {pos : Pos}
def tNext : TS := fun D σ H => D.nx σ H
def tSeq (t u : TS) : TS := fun D σ H => t { D with nx := u D } σ H
theorem pss_nil : PSs X [] tNext := fun _ _ σ H _ I h => wpAny_execs_nil ⟨σ, H, I, h⟩
theorem pss_cons (h1 : PS X st t) (h2 : PSs X rest u) : PSs X (st :: rest) (tSeq t u) := by
  intro pins s σ H D I h
  refine wpAny_execs_cons (thn (h1 pins s σ H { D with nx := u D } I h) fun f s1 q => ?_)
  cases f with
  | next =>
    obtain ⟨σ', H', I', q⟩ := q
    exact h2 pins s1 σ' H' D I' q
  | ret v => exact q
  | brk => exact q
  | cont => exact q
theorem pss_one (h1 : PS X st t) : PSs X [st] t := by
  intro pins s σ H D I h
  refine wpAny_execs_cons (thn (h1 pins s σ H D I h) fun f s1 q => ?_)
  cases f with
  | next => exact wpAny_execs_nil q
  | ret v => exact q
  | brk => exact q
  | cont => exact q
def tBreak : TS := fun D σ H => D.bk σ H
def tCont : TS := fun D σ H => D.ct σ H
/-- in a def's body nothing is shown -/
theorem Inv.quiet {pins : List (Addr × Obj)} {σ : St} {H : Hp} {s : Shared} (I : Inv X pins σ H s) : interactive X.env = false := by simp [interactive, I.ok.kind]
/-- an expression whose value is dropped -/
def tDrop (te : TE) : TS := fun D σ H => te σ H fun _ H1 => D.nx σ H1
theorem ps_expr (he : PE X e te) (hs : swapsWith e none pos.line X.env = pure false := by rfl) : PS X (.Expr e pos) (tDrop te) := by
  intro pins s σ H D I h
  exact wpAny_Expr_any (thn (he pins s σ H _ I h) fun v s1 ⟨x, H1, I1, r1, q1⟩ => ⟨σ, H1, I1, q1⟩) I.quiet hs
def tRet (te : TE) : TS := fun D σ H => te σ H D.rt
theorem ps_ret (he : PE X e te) : PS X (.Return (some e) pos) (tRet te) := by
  intro pins s σ H D I h
  exact wpAny_Return_some (thn (he pins s σ H _ I h) fun v s1 ⟨x, H1, I1, r1, q1⟩ => ⟨x, σ, H1, I1, r1, q1⟩)
def tRetN : TS := fun D _ H => D.rt .non H
def tIfS (c : TT) (t u : TS) : TS := fun D σ H => c σ H fun b H1 => if b = true then t D σ H1 else u D σ H1
theorem ps_if {c : Expr} {a b : List Stmt} {tc : TT} (hc : PT X c tc) (ha : PSs X a t) (hb : PSs X b u) : PS X (.If c a b pos) (tIfS tc t u) := by
  intro pins s σ H D I h
  refine wpAny_If (thn (hc pins s σ H _ I h) fun d s1 ⟨H1, I1, q1⟩ => ?_)
  cases d with
  | true => exact ha pins s1 σ H1 D I1 q1
  | false => exact hb pins s1 σ H1 D I1 q1
/-- code that the proof never comes to -/
def tNever : TS := fun _ _ _ => False
end

/-! ### targets -/
abbrev TG := V → St → Hp → (St → Hp → Prop) → Prop
abbrev TGs := List V → St → Hp → (St → Hp → Prop) → Prop
def PG (X : Cx) (target : Expr) (t : TG) : Prop :=
  ∀ (pins : List (Addr × Obj)) (s : Shared) (σ : St) (H : Hp) (v : V) (u : Value) (Q : St → Hp → Prop), Inv X pins σ H s → RelV v u → t v σ H Q →
    wpAny (model X.prog X.w) X.A (assign target X.env u) (fun _ s' => ∃ σ' H', Inv X pins σ' H' s' ∧ Q σ' H') X.xe s
/-- several targets, one after another -/
def PGs (X : Cx) (ts : List Expr) (t : TGs) : Prop :=
  ∀ (pins : List (Addr × Obj)) (s : Shared) (σ : St) (H : Hp) (vs : List V) (us : List Value) (Q : St → Hp → Prop), Inv X pins σ H s → Vals vs us → t vs σ H Q →
    wpAny (model X.prog X.w) X.A (assignInOrder ((assignEach ts X.env).map (·.2)) us) (fun _ s' => ∃ σ' H', Inv X pins σ' H' s' ∧ Q σ' H') X.xe s
/-- o[i] = v, by values -/
abbrev TSet := V → V → V → Hp → (Hp → Prop) → Prop
def PSet (X : Cx) (t : TSet) : Prop :=
  ∀ (pins : List (Addr × Obj)) (s : Shared) (σ : St) (H : Hp) (o i v : V) (ov iv u : Value) (Q : Hp → Prop), Inv X pins σ H s → RelV o ov → RelV i iv → RelV v u → t o i v H Q →
    wpAny (model X.prog X.w) X.A (setItem ov iv u) (fun _ s' => ∃ H', Inv X pins σ H' s' ∧ Q H') X.xe s
/-- a op= b, by values -/
abbrev TIp := V → V → Hp → VK → Prop
def PIp (X : Cx) (op : Operator) (t : TIp) : Prop :=
  ∀ (pins : List (Addr × Obj)) (s : Shared) (σ : St) (H : Hp) (x y : V) (v u : Value) (Q : VK), Inv X pins σ H s → RelV x v → RelV y u → t x y H Q →
    wpAny (model X.prog X.w) X.A (inplaceOp op v u) (EP X pins σ Q) X.xe s
section
variable {X : Cx} {pos : Pos}
def gName (i : Nat) : TG := fun v σ H Q => Q (σ.set i (some v)) H
theorem pg_name {i : Nat} {x : Str} (hN : X.N.Nodup) (hi : X.N[i]? = some x) (hx : Loc X.env.scope x) (hf : X.fn x = true ∨ X.env.scope.names.lookup x = some .local := by first | exact .inl rfl | exact .inr rfl | assumption) : PG X (.Name x pos) (gName i) := by
  intro pins s σ H v u Q I r h
  exact wpAny_assign_Name (store_ok I hN hi hx r (fun s' I' => ⟨_, H, I', h⟩) hf)
def gNil : TGs := fun vs σ H Q => vs = [] ∧ Q σ H
def gCons (t : TG) (u : TGs) : TGs := fun vs σ H Q => ∃ v r, vs = v :: r ∧ t v σ H fun σ' H' => u r σ' H' Q
/-- (a, b, ..) = a tuple of that length -/
def gTup (K : PySem.W.Frag) (n : Nat) (t : TGs) : TG := fun v σ H Q => ∃ a xs, v = .ref a ∧ SqT K H a xs ∧ xs.length = n ∧ t xs σ H Q
/-- o[i] = .. -/
def gSub (to ti : TE) (t : TSet) : TG := fun v σ H Q => to σ H fun o H1 => ti σ H1 fun i H2 => t o i v H2 fun H3 => Q σ H3
theorem pg_sub {o i : Expr} {to ti : TE} {t : TSet} (ho : PE X o to) (hi : PE X i ti) (hs : PSet X t)
    (ha : ∀ v, assign (.Subscript o i pos) X.env v = (do
      let ov ← holding [v] (eval o X.env)
      let iv ← holding [v, ov] (eval i X.env)
      standAt pos
      holding [v, ov, iv] (setItem ov iv v)
      release [v, ov, iv] []) := by intro _; rfl) : PG X (.Subscript o i pos) (gSub to ti t) := by
  intro pins s σ H v u Q I r h
  rw [ha]
  refine wpAny_bind (wpAny_holding (thn (ho pins s σ H _ I h) fun ov s1 ⟨x, H1, I1, r1, q1⟩ => ?_))
  refine wpAny_bind (wpAny_holding (thn (hi pins s1 σ H1 _ I1 q1) fun iv s2 ⟨y, H2, I2, r2, q2⟩ => ?_))
  refine wpAny_bind (wpAny_standAt (wpAny_bind (wpAny_holding (thn (hs pins s2 σ H2 x y v ov iv u _ I2 r1 r2 r q2) fun _ s3 ⟨H3, I3, q3⟩ => ?_))))
  exact wpAny_release ⟨σ, H3, I3, q3⟩
/-- target = value -/
def tAsg (te : TE) (g : TG) : TS := fun D σ H => te σ H fun x H1 => g x σ H1 D.nx
theorem ps_asg {tg e : Expr} {te : TE} {g : TG} (he : PE X e te) (hg : PG X tg g) (hs : swapsWithSole [tg] e pos.line X.env = pure false := by rfl) (hw : swappedStores [tg] e X.env = pure none := by rfl)
    (h1 : (assignEach [tg] X.env).map (·.2) = [assign tg X.env] := by rfl) : PS X (.Assign [tg] e pos) (tAsg te g) := by
  intro pins s σ H D I h
  refine wpAny_Assign_stores (thn (he pins s σ H _ I h) fun v s1 ⟨x, H1, I1, r1, q1⟩ => ?_) hs hw
  rw [h1]
  exact thn (hg pins s1 σ H1 x v _ I1 r1 q1) fun _ s2 q => q
/-- name = value -/
theorem ps_set {i : Nat} {x : Str} {e : Expr} {te : TE} {pos' : Pos} (hN : X.N.Nodup) (hi : X.N[i]? = some x) (hx : Loc X.env.scope x) (he : PE X e te) (hs : swapsWith e (some (.Name x pos')) pos.line X.env = pure false := by rfl) (hf : X.fn x = true ∨ X.env.scope.names.lookup x = some .local := by first | exact .inl rfl | exact .inr rfl | assumption) :
    PS X (.Assign [.Name x pos'] e pos) (tAsg te (gName i)) := by
  intro pins s σ H D I h
  refine wpAny_Assign_Name (thn (he pins s σ H _ I h) fun v s1 ⟨y, H1, I1, r1, q1⟩ => ?_) hs
  exact store_ok I1 hN hi hx r1 (fun s2 I2 => ⟨_, H1, I2, q1⟩) hf
/-- a, b = x, y with plain local names: stored from the right; the pair itself is not tracked (the opening rows as in PyProof/Rows/TupAssign.lean:23) -/
def tPar (i j : Nat) (ta : TA) : TS := fun D σ H => ta σ H fun vs H1 => ∃ v w, vs = [v, w] ∧ D.nx ((σ.set i (some v)).set j (some w)) H1
/-- name op= e -/
def tAug (i : Nat) (te : TE) (ti : TIp) : TS := fun D σ H => ∃ x, σ[i]? = some (some x) ∧ te σ H fun y H1 => ti x y H1 fun z H2 => D.nx (σ.set i (some z)) H2
/-- o[i] op= e -/
def tAugS (to ti te : TE) (tget : V → V → Hp → VK → Prop) (tip : TIp) (tset : TSet) : TS := fun D σ H => to σ H fun o H1 => ti σ H1 fun i H2 => tget o i H2 fun x H3 => te σ H3 fun y H4 => tip x y H4 fun z H5 => tset o i z H5 fun H6 => D.nx σ H6
/-- o[i], by values -/
def PGet (X : Cx) (t : V → V → Hp → VK → Prop) : Prop :=
  ∀ (pins : List (Addr × Obj)) (s : Shared) (σ : St) (H : Hp) (o i : V) (ov iv : Value) (Q : VK), Inv X pins σ H s → RelV o ov → RelV i iv → t o i H Q →
    wpAny (model X.prog X.w) X.A (getItem ov iv) (EP X pins σ Q) X.xe s
/-- ints -/
def ipI (f : Int → Int → Int) : TIp := fun x y H Q => ∃ i j, x = .int i ∧ y = .int j ∧ Q (.int (f i j)) H
end

/-! ### while -/
section
variable {X : Cx} {pos : Pos}
/-- the invariant W with its measure -/
def tWhile (c : TT) (tb : TS) : TS := fun D σ H => ∃ W : Nat → St → Hp → Prop, (∃ m, W m σ H) ∧ ∀ m σ H, W m σ H →
  c σ H fun b H1 => if b = true then ∃ N : St → Hp → Prop, (∀ σ' H', N σ' H' → ∃ m', m' < m ∧ W m' σ' H') ∧ tb { D with nx := N, ct := N, bk := D.nx } σ H1 else D.nx σ H1
end

/-! ### what a loop or a comprehension walks -/
/-- at turn i: it yields x (the heap may grow), or it stops -/
structure It where
  go : Nat → Hp → Prop
  yld : Nat → Hp → V → Hp → Prop
  stop : Nat → Hp → Prop
/-- the iterator's own objects may turn: they are not the frame's, not pinned, younger than the entry (or a comprehension's own) -/
def FpOk (X : Cx) (pins : List (Addr × Obj)) (H : Hp) (b : Addr) : Prop :=
  H b = none ∧ b ≠ X.env.locals ∧ b ∉ X.fs ∧ (b ∈ X.ex ∨ X.s₀.heap.objs.size ≤ b) ∧ (∀ x c, X.env.cells.lookup x = some c → c ≠ b) ∧ ∀ p ∈ X.pn ++ pins, p.1 ≠ b
theorem Inv.fpOk {X : Cx} {pins : List (Addr × Obj)} {σ : St} {H H' : Hp} {s : Shared} {b : Addr} (I : Inv X pins σ H s) (hb : s.heap.objs.size ≤ b) (hn : H' b = none) : FpOk X pins H' b := by
  refine ⟨hn, Nat.ne_of_gt (Nat.lt_of_lt_of_le I.lt hb), I.nofs hb, .inr (Nat.le_trans I.sz hb), fun x c e z => ?_, fun p hp z => ?_⟩
  · obtain ⟨v, q⟩ := I.cell x c e
    exact absurd (Nat.lt_of_lt_of_le q.lt (by rw [z]; exact hb)) (Nat.lt_irrefl _)
  · exact absurd (Nat.lt_of_lt_of_le (Heap.lt_size (I.pin p hp).1) (by rw [z]; exact hb)) (Nat.lt_irrefl _)
structure Turn (P : Program) (w : World) (K : PySem.W.Frag) (tg : Expr) (J : It) (fp : List Addr) (it : Addr) (tn : Nat → Heap → Prop) : Prop where
  mem : it ∈ fp
  obj : ∀ i h, tn i h → ∀ b ∈ fp, ∃ o, h.get? b = some o ∧ ∀ v, o.data ≠ .cell v
  keep : ∀ i h h', tn i h → (∀ b ∈ fp, ∀ o, h.get? b = some o → h'.get? b = some o) → tn i h'
  item : ∀ (X : Cx), X.prog = P → X.w = w → X.K = K → X.calm = true → ∀ (i : Nat) (pins : List (Addr × Obj)) (s : Shared) (σ : St) (H : Hp) (E : Value → Shared → Prop), Inv X pins σ H s → (∀ b ∈ fp, FpOk X pins H b) → tn i s.heap → J.go i H →
    wpAny (model P w) X.A (pyNext (.ref it)) (fun r s1 => ∃ u, r = some u ∧
      wpAny (model P w) X.A (letOwnedTupleGo tg (.ref it) u) (fun _ s2 => ∃ x H', Inv X pins σ H' s2 ∧ RelV x u ∧ J.yld i H x H' ∧ tn (i + 1) s2.heap ∧ ∀ b ∈ fp, H' b = none) E s1) E s
  done : ∀ (X : Cx), X.prog = P → X.w = w → X.K = K → X.calm = true → ∀ (i : Nat) (pins : List (Addr × Obj)) (s : Shared) (σ : St) (H : Hp) (E : Value → Shared → Prop), Inv X pins σ H s → (∀ b ∈ fp, FpOk X pins H b) → tn i s.heap → J.stop i H →
    wpAny (model P w) X.A (pyNext (.ref it)) (fun r s1 => r = none ∧ Inv X pins σ H s1) E s
  self : ∀ (A : Around) (i : Nat) (s : Shared) (Q : Value → Shared → Prop) (E : Value → Shared → Prop), tn i s.heap → Q (.ref it) s → wpAny (model P w) A (pyIter (.ref it)) Q E s
abbrev TI := St → Hp → (It → Hp → Prop) → Prop
/-- an iterator has come -/
def PIE (X : Cx) (pins : List (Addr × Obj)) (σ : St) (tg : Expr) (R : It → Hp → Prop) (itv : Value) (s2 : Shared) : Prop :=
  ∃ (it : Addr) (fp : List Addr) (tn : Nat → Heap → Prop) (J : It) (H' : Hp), itv = .ref it ∧ Inv X pins σ H' s2 ∧ Turn X.prog X.w X.K tg J fp it tn ∧ tn 0 s2.heap ∧ (∀ b ∈ fp, FpOk X pins H' b) ∧ R J H'
def PI (X : Cx) (tg iter : Expr) (wi : TI) : Prop :=
  ∀ (pins : List (Addr × Obj)) (s : Shared) (σ : St) (H : Hp) (R : It → Hp → Prop), Inv X pins σ H s → wi σ H R →
    wpAny (model X.prog X.w) X.A (eval iter X.env) (fun v s1 => wpAny (model X.prog X.w) X.A (pyIter v) (PIE X pins σ tg R) X.xe s1) X.xe s

/-- the step ahead of the store is nothing for an iterator that keeps no tuple -/
theorem go_of {M : Model} {A : Around} {E : Value → Shared → Prop} {s : Shared} {tg : Expr} {it : Addr} {u : Value} {o : Obj} {n : String} {vs : Array Value} {Q : Unit → Shared → Prop} (ho : s.heap.get? it = some o) (hc : o.cls = .type n) (hd : o.data = .fields vs)
    (hn : ["enumerate", "zip", "dict_itemiterator", "dict_reverseitemiterator", "odict_iterator", "itertools.zip_longest", "itertools.pairwise"].contains n = false) (hQ : Q () s) : wpAny M A (letOwnedTupleGo tg (.ref it) u) Q E s := by
  unfold letOwnedTupleGo
  cases tg <;> first
    | exact wpAny_pure hQ
    | (cases u <;> first
        | exact wpAny_pure hQ
        | (refine wpAny_bind (wpAny_load ho ?_)
           rw [hc, hd]
           show wpAny M A (if (["enumerate", "zip", "dict_itemiterator", "dict_reverseitemiterator", "odict_iterator", "itertools.zip_longest", "itertools.pairwise"].contains n && vs[0]? == some (rawInt _)) = true then _ else _) Q E s
           rw [if_neg (by intro h; rw [hn, Bool.false_and] at h; cases h)]
           exact wpAny_pure hQ))

/-- the list at a, as it stands at each turn (a loop may append to it) -/
def Itl (K : PySem.W.Frag) (a : Addr) : It :=
  ⟨fun i H => ∃ xs x, SqL K H a xs ∧ xs[i]? = some x, fun i H x H' => H' = H ∧ ∀ xs, SqL K H a xs → xs[i]? = some x, fun i H => ∃ xs, SqL K H a xs ∧ xs.length ≤ i⟩
def Itt (K : PySem.W.Frag) (a : Addr) : It :=
  ⟨fun i H => ∃ xs x, SqT K H a xs ∧ xs[i]? = some x, fun i H x H' => H' = H ∧ ∀ xs, SqT K H a xs → xs[i]? = some x, fun i H => ∃ xs, SqT K H a xs ∧ xs.length ≤ i⟩
/-- lo, lo + 1, .. (n of them) -/
def Itr (lo : Int) (n : Nat) : It := ⟨fun i _ => i < n, fun i H x H' => H' = H ∧ x = .int (lo + i), fun i _ => n ≤ i⟩
theorem turn_list {P : Program} {w : World} {K : PySem.W.Frag} {tg : Expr} (a it : Addr) : Turn P w K tg (Itl K a) [it] it (fun i h => h.IsListIter it a i) where
  mem := by simp
  obj := fun i h st b hb => by
    have e : b = it := by simpa using hb
    subst e
    obtain ⟨o, e, c, d⟩ := st
    exact ⟨o, e, fun v z => by rw [d] at z; cases z⟩
  keep := fun i h h' st k => st.at fun o e => k it (by simp) o e
  item := by
    intro X hP hw hK hc i pins s σ H E I hf st hg
    subst hP hw hK
    obtain ⟨xs, x, hq, hx⟩ := hg
    obtain ⟨its, rv, p, hz⟩ := I.list hq
    obtain ⟨u, hu, ru⟩ := rv.get hx
    obtain ⟨f0, f1, f2, f3, f4, f5⟩ := hf it (by simp)
    refine wpAny_pyNext_list_item st p.isList (x := u) (by simpa using hu) fun h' st' sb => ?_
    have I1 : Inv X pins σ H { s with heap := h' } := I.turned (t' := s.toks) (fun b o hb e => (sb.2 b hb).trans e) f0 f1 f3 f4 f5
    obtain ⟨o, e, c, d⟩ := id st'
    exact ⟨u, rfl, go_of (s := { s with heap := h' }) e c d (by decide) ⟨x, H, I1, ru, ⟨rfl, fun ys hy => by rw [I.list_inj hy hq]; exact hx⟩, st', fun b hb => (hf b hb).1⟩⟩
  done := by
    intro X hP hw hK hc i pins s σ H E I hf st hg
    subst hP hw hK
    obtain ⟨xs, hq, hx⟩ := hg
    obtain ⟨its, rv, p, hz⟩ := I.list hq
    obtain ⟨f0, f1, f2, f3, f4, f5⟩ := hf it (by simp)
    have hl := rv.length
    exact wpAny_pyNext_list_end (I.ok.hd hc) st p.isList (by simp; omega) fun h' eb => ⟨rfl, I.turned (t' := s.toks) (fun b o hb e => eb b o hb e) f0 f1 f3 f4 f5⟩
  self := fun _ _ _ _ _ st h => wpAny_pyIter_listiter st h
theorem turn_range {P : Program} {w : World} {K : PySem.W.Frag} {tg : Expr} (it : Addr) (lo : Int) (n : Nat) : Turn P w K tg (Itr lo n) [it] it (fun i h => IsRangeIter h it (lo + (i : Nat) * 1) ((n : Int) - (i : Nat)) 1) where
  mem := by simp
  obj := fun i h st b hb => by
    have e : b = it := by simpa using hb
    subst e
    exact ⟨_, st, fun v z => by
      have z' : Data.fields _ = Data.cell v := z
      cases z'⟩
  keep := fun i h h' st k => k it (by simp) _ st
  item := by
    intro X hP hw hK hc i pins s σ H E I hf st hg
    subst hP hw hK
    obtain ⟨f0, f1, f2, f3, f4, f5⟩ := hf it (by simp)
    have W := Walks.range (prog := X.prog) (w := X.w) (I.ok.hd hc) it lo 1 n
    refine W.item i s _ _ hg st fun v h' tk hv st' kk => ?_
    obtain ⟨t, rfl⟩ := hv
    have I1 : Inv X pins σ H { s with heap := h', toks := tk } := I.turned (fun b o hb e => kk b o (by simpa using hb) e) f0 f1 f3 f4 f5
    refine ⟨_, rfl, go_of (s := { s with heap := h', toks := tk }) (n := "range_iterator") st' rfl rfl (by decide) ⟨.int (lo + i), H, I1, ⟨t, ?_⟩, ⟨rfl, rfl⟩, st', fun b hb => (hf b hb).1⟩⟩
    rw [Int.mul_one]
  done := by
    intro X hP hw hK hc i pins s σ H E I hf st hg
    subst hP hw hK
    obtain ⟨f0, f1, f2, f3, f4, f5⟩ := hf it (by simp)
    exact wpAny_pyNext_range_end (I.ok.hd hc) st (by have : n ≤ i := hg; omega) fun h' eb => ⟨rfl, I.turned (t' := s.toks) (fun b o hb e => eb b o hb e) f0 f1 f3 f4 f5⟩
  self := fun _ _ _ _ _ st h => wpAny_pyIter_rangeiter st h
end L2

namespace L2
open PySem PySem.Spec PyProof.Rows
section
variable {X : Cx} {tg : Expr}
def iList (K : PySem.W.Frag) (tl : TE) : TI := fun σ H R => tl σ H fun x H1 => ∃ a, x = .ref a ∧ (∃ xs, SqL K H1 a xs) ∧ R (Itl K a) H1
def iTup (K : PySem.W.Frag) (tl : TE) : TI := fun σ H R => tl σ H fun x H1 => ∃ a, x = .ref a ∧ (∃ xs, SqT K H1 a xs) ∧ R (Itt K a) H1
theorem pi_list {l : Expr} {tl : TE} (hl : PE X l tl) : PI X tg l (iList X.K tl) := by
  intro pins s σ H R I h
  refine thn (hl pins s σ H _ I h) fun v s1 ⟨x, H1, I1, r1, q1⟩ => ?_
  obtain ⟨a, e, ⟨xs, hq⟩, q⟩ := q1
  subst e
  cases r1
  obtain ⟨its, rv, p, hz⟩ := I1.list hq
  refine wpAny_pyIter_list p.isList ?_
  refine ⟨s1.heap.objs.size, [s1.heap.objs.size], _, _, H1, rfl, I1.kept (t' := s1.toks) fun b o e => Heap.get?_push_of_some _ e, turn_list a _, ⟨_, Heap.get?_push_size _ rfl, rfl, rfl⟩, fun b hb => ?_, q⟩
  have e : b = s1.heap.objs.size := by simpa using hb
  subst e
  exact I1.fpOk (Nat.le_refl _) (I1.hok.fresh (Nat.le_refl _))
/-- a range object just made, walked -/
theorem range_it {pins : List (Addr × Obj)} {σ : St} {H : Hp} {s : Shared} {R : It → Hp → Prop} {E : Value → Shared → Prop} {lo hi : Int} {t u v : Tok} {tk : Nat} (I : Inv X pins σ H s) (h1 : -(2 ^ 62) ≤ lo) (h2 : lo < 2 ^ 62) (h3 : -(2 ^ 62) ≤ hi) (h4 : hi < 2 ^ 62)
    (q : R (Itr lo (hi - lo).toNat) H) : wpAny (model X.prog X.w) X.A (pyIter (.ref s.heap.objs.size)) (PIE X pins σ tg R) E { s with heap := s.heap.push { cls := .type "range", data := .fields #[.int lo t, .int hi u, .int 1 v] }, toks := tk } := by
  refine wpAny_pyIter_range (IsRange.new ..) (small_one h1 h2 h3 h4) ?_
  have I1 : Inv X pins σ H { s with heap := s.heap.push { cls := .type "range", data := .fields #[.int lo t, .int hi u, .int 1 v] }, toks := tk } := I.kept fun b o e => Heap.get?_push_of_some _ e
  refine ⟨(s.heap.push { cls := .type "range", data := .fields #[.int lo t, .int hi u, .int 1 v] }).objs.size, [(s.heap.push { cls := .type "range", data := .fields #[.int lo t, .int hi u, .int 1 v] }).objs.size], _, _, H, rfl,
    I1.kept (t' := tk) fun b o e => Heap.get?_push_of_some _ e, turn_range _ lo (hi - lo).toNat, ?_, fun b hb => ?_, q⟩
  · have e1 : lo + ((0 : Nat) : Int) * 1 = lo := by simp
    have e2 : (((hi - lo).toNat : Nat) : Int) - ((0 : Nat) : Int) = Builtin.Range.rangeSize lo hi 1 := by rw [rangeSize_one]; split <;> omega
    show IsRangeIter _ _ (lo + ((0 : Nat) : Int) * 1) ((((hi - lo).toNat : Nat) : Int) - ((0 : Nat) : Int)) 1
    rw [e1, e2]
    exact Heap.get?_push_size _ rfl
  · have e : b = (s.heap.push { cls := .type "range", data := .fields #[.int lo t, .int hi u, .int 1 v] }).objs.size := by simpa using hb
    subst e
    exact I1.fpOk (Nat.le_refl _) (I1.hok.fresh (Nat.le_refl _))
def iRng1 (ta : TA) : TI := fun σ H R => ta σ H fun vs H1 => ∃ j : Int, vs = [.int j] ∧ -(2 ^ 62) ≤ j ∧ j < 2 ^ 62 ∧ R (Itr 0 j.toNat) H1
def iRng2 (ta : TA) : TI := fun σ H R => ta σ H fun vs H1 => ∃ i j : Int, vs = [.int i, .int j] ∧ (-(2 ^ 62) ≤ i ∧ i < 2 ^ 62 ∧ -(2 ^ 62) ≤ j ∧ j < 2 ^ 62) ∧ R (Itr i (j - i).toNat) H1
theorem pi_range1 {a : Expr} {ta : TA} {p pos : Pos} (hg : Gl X "range") (hm : X.mg "range" = none) (ha : PA X [a] ta) (hs : starEach [a] X.env = [(false, eval a X.env)] := by rfl) : PI X tg (.Call (.Name "range" p) [a] [] pos) (iRng1 ta) := by
  intro pins s σ H R I h
  refine Call_ (ld_blt I hg hm boot_range (PyProof.Rows.callWith_type1 (thn (ha pos pins s σ H _ I h) fun us s1 ⟨vs, H1, I1, r1, q1⟩ => ?_) hs rfl))
  obtain ⟨j, e, q1, q2, q⟩ := q1
  subst e
  cases r1 with
  | cons r rr =>
    cases rr
    obtain ⟨t, rfl⟩ := r
    exact call_range_1 (range_it I1 (by omega) (by omega) q1 q2 (by simpa using q))
/-! ### for -/
/-- W: the invariant by the turn and a measure; N: what the body is to reach -/
def tFor (wi : TI) (g : TG) (tb : TS) : TS := fun D σ H => wi σ H fun J H1 => ∃ W : Nat → Nat → St → Hp → Prop, (∃ m, W 0 m σ H1) ∧ ∀ i m σ H, W i m σ H →
  (J.stop i H ∧ D.nx σ H) ∨ (J.go i H ∧ ∃ N : St → Hp → Prop, (∀ σ' H', N σ' H' → ∃ m', m' < m ∧ W (i + 1) m' σ' H') ∧ ∀ x H', J.yld i H x H' → g x σ H' fun σ2 H2 => tb { D with nx := N, ct := N, bk := D.nx } σ2 H2)
/-- the records at fp as they stand -/
def pinsAt (fp : List Addr) (h : Heap) : List (Addr × Obj) := fp.filterMap fun b => (h.get? b).map fun o => (b, o)
theorem mem_pinsAt {fp : List Addr} {h : Heap} {b : Addr} {o : Obj} (hb : b ∈ fp) (e : h.get? b = some o) : (b, o) ∈ pinsAt fp h := List.mem_filterMap.mpr ⟨b, hb, by rw [e]; rfl⟩
theorem of_pinsAt {fp : List Addr} {h : Heap} {p : Addr × Obj} (hp : p ∈ pinsAt fp h) : p.1 ∈ fp ∧ h.get? p.1 = some p.2 := by
  obtain ⟨b, hb, e⟩ := List.mem_filterMap.mp hp
  cases q : h.get? b with
  | none => rw [q] at e; cases e
  | some o =>
    rw [q] at e
    have e' : (b, o) = p := Option.some.inj e
    subst e'
    exact ⟨hb, q⟩
theorem Inv.pinned {pins : List (Addr × Obj)} {σ : St} {H : Hp} {s : Shared} {fp : List Addr} (I : Inv X pins σ H s) (hf : ∀ b ∈ fp, FpOk X pins H b) (ho : ∀ b ∈ fp, ∃ o, s.heap.get? b = some o ∧ ∀ v, o.data ≠ .cell v) : Inv X (pins ++ pinsAt fp s.heap) σ H s :=
  I.pins_of fun p hp => (List.mem_append.mp hp).elim (fun z => I.pin p (List.mem_append_right _ z)) fun z => by
    obtain ⟨hb, e⟩ := of_pinsAt z
    obtain ⟨f0, f1, f2, _⟩ := hf p.1 hb
    obtain ⟨o, e', d⟩ := ho p.1 hb
    rw [e] at e'; cases e'
    exact ⟨e, f0, f1, f2, d⟩
theorem Inv.unpinned {pins pl : List (Addr × Obj)} {σ : St} {H : Hp} {s : Shared} (I : Inv X (pins ++ pl) σ H s) : Inv X pins σ H s := I.pins_of fun p hp => I.pin p (List.mem_append_right _ (List.mem_append_left _ hp))
theorem ps_for {iter : Expr} {body : List Stmt} {wi : TI} {g : TG} {tb : TS} {pos : Pos} (hp : PassesOwn (model X.prog X.w) X.A X.env X.xe) (hc : X.calm = true) (hi : PI X tg iter wi) (hg : PG X tg g) (hb : PSs X body tb)
    (hs : ∀ x, foldedSetIterable iter X.env x = pure x := by intro _; rfl) : PS X (.For tg iter body [] pos) (tFor wi g tb) := by
  intro pins s σ H D I h
  refine wpAny_For (thn (hi pins s σ H _ I h) fun v s1 h1 => thn h1 fun itv s2 h2 => ?_) hs
  obtain ⟨it, fp, tn, J, H2, e, I2, T, st2, f2, W, ⟨m0, w0⟩, turn⟩ := h2
  subst e
  -- what stays true of the iterator's objects through the loop
  have stat : ∀ {H' : Hp}, (∀ b ∈ fp, H' b = none) → ∀ b ∈ fp, FpOk X pins H' b := fun hn b hb => ⟨hn b hb, (f2 b hb).2⟩
  refine codeAny_forLoop_any (fun n s' => ∃ i σ' H', Inv X pins σ' H' s' ∧ tn i s'.heap ∧ (∀ b ∈ fp, H' b = none) ∧ W i n σ' H') ?_ m0 ⟨0, σ, H2, I2, st2, fun b hb => (f2 b hb).1, w0⟩
  rintro n s3 ⟨i, σ3, H3, I3, st3, fr3, w3⟩
  rcases turn i n σ3 H3 w3 with ⟨stop, qn⟩ | ⟨go, N, hN, step⟩
  · refine wpAny_passesOwn hp (thn (T.done X rfl rfl rfl hc i pins s3 σ3 H3 X.xe I3 (stat fr3) st3 stop) fun r s4 ⟨hr, I4⟩ => ?_)
    subst hr
    exact wpAny_execs_nil ⟨σ3, H3, I4, qn⟩
  · refine wpAny_passesOwn hp (thn (T.item X rfl rfl rfl hc i pins s3 σ3 H3 X.xe I3 (stat fr3) st3 go) fun r s4 ⟨u, hr, h4⟩ => ?_)
    subst hr
    refine wpAny_passesOwn hp (thn h4 fun _ s5 ⟨x, H5, I5, r5, y5, st5, fr5⟩ => ?_)
    have I5' := I5.pinned (stat fr5) (T.obj _ _ st5)
    refine wpAny_passesOwn hp (thn (hg _ s5 σ3 H5 x u _ I5' r5 (step x H5 y5)) fun _ s6 ⟨σ6, H6, I6, q6⟩ => ?_)
    refine wpAny_passesOwn hp (thn (hb _ s6 σ6 H6 _ I6 q6) fun f s7 q7 => ?_)
    have again : ∀ {σ7 : St} {H7 : Hp}, Inv X (pins ++ pinsAt fp s5.heap) σ7 H7 s7 → N σ7 H7 → ∃ m, m < n ∧ ∃ i σ' H', Inv X pins σ' H' s7 ∧ tn i s7.heap ∧ (∀ b ∈ fp, H' b = none) ∧ W i m σ' H' := fun {σ7 H7} I7 n7 => by
      obtain ⟨m', hm, w7⟩ := hN σ7 H7 n7
      refine ⟨m', hm, i + 1, σ7, H7, I7.unpinned, T.keep _ _ _ st5 fun b hb o e => (I7.pin (b, o) (List.mem_append_right _ (List.mem_append_right _ (mem_pinsAt hb e)))).1, fun b hb => ?_, w7⟩
      obtain ⟨o, e, d⟩ := T.obj _ _ st5 b hb
      exact (I7.pin (b, o) (List.mem_append_right _ (List.mem_append_right _ (mem_pinsAt hb e)))).2.1
    cases f with
    | next => obtain ⟨σ7, H7, I7, n7⟩ := q7; exact again I7 n7
    | cont => obtain ⟨σ7, H7, I7, n7⟩ := q7; exact again I7 n7
    | brk => obtain ⟨σ7, H7, I7, q7⟩ := q7; exact ⟨σ7, H7, I7.unpinned, q7⟩
    | ret v => obtain ⟨x7, σ7, H7, I7, r7, q7⟩ := q7; exact ⟨x7, σ7, H7, I7.unpinned, r7, q7⟩
end

/-! ### the forms one uses -/
/-- over a list that the body leaves as it is -/
theorem for_list {K : PySem.W.Frag} {a : Addr} {xs : List V} {g : TG} {tb : TS} {D : Ends} {σ : St} {H : Hp} (Pv : Nat → St → Hp → Prop) (h0 : Pv 0 σ H) (hl : ∀ i σ H, i ≤ xs.length → Pv i σ H → SqL K H a xs)
    (hs : ∀ i x σ H, xs[i]? = some x → Pv i σ H → g x σ H fun σ2 H2 => tb { D with nx := Pv (i + 1), ct := Pv (i + 1), bk := D.nx } σ2 H2) (hd : ∀ σ H, Pv xs.length σ H → D.nx σ H) :
    ∃ W : Nat → Nat → St → Hp → Prop, (∃ m, W 0 m σ H) ∧ ∀ i m σ H, W i m σ H →
      ((Itl K a).stop i H ∧ D.nx σ H) ∨ ((Itl K a).go i H ∧ ∃ N : St → Hp → Prop, (∀ σ' H', N σ' H' → ∃ m', m' < m ∧ W (i + 1) m' σ' H') ∧ ∀ x H', (Itl K a).yld i H x H' → g x σ H' fun σ2 H2 => tb { D with nx := N, ct := N, bk := D.nx } σ2 H2) := by
  refine ⟨fun i m σ H => m = xs.length - i ∧ i ≤ xs.length ∧ Pv i σ H, ⟨xs.length, by simp, Nat.zero_le _, h0⟩, ?_⟩
  rintro i m σ H ⟨rfl, hi, p⟩
  have q := hl i σ H hi p
  by_cases hlt : i < xs.length
  · refine .inr ⟨⟨xs, xs[i], q, by simp [hlt]⟩, Pv (i + 1), fun σ' H' p' => ⟨xs.length - (i + 1), by omega, rfl, hlt, p'⟩, fun x H' y => ?_⟩
    obtain ⟨e, y⟩ := y
    subst e
    exact hs i x σ _ (y xs q) p
  · have e : i = xs.length := by omega
    subst e
    exact .inl ⟨⟨xs, q, Nat.le_refl _⟩, hd σ H p⟩
theorem for_range {lo : Int} {n : Nat} {g : TG} {tb : TS} {D : Ends} {σ : St} {H : Hp} (Pv : Nat → St → Hp → Prop) (h0 : Pv 0 σ H)
    (hs : ∀ i σ H, i < n → Pv i σ H → g (.int (lo + i)) σ H fun σ2 H2 => tb { D with nx := Pv (i + 1), ct := Pv (i + 1), bk := D.nx } σ2 H2) (hd : ∀ σ H, Pv n σ H → D.nx σ H) :
    ∃ W : Nat → Nat → St → Hp → Prop, (∃ m, W 0 m σ H) ∧ ∀ i m σ H, W i m σ H →
      ((Itr lo n).stop i H ∧ D.nx σ H) ∨ ((Itr lo n).go i H ∧ ∃ N : St → Hp → Prop, (∀ σ' H', N σ' H' → ∃ m', m' < m ∧ W (i + 1) m' σ' H') ∧ ∀ x H', (Itr lo n).yld i H x H' → g x σ H' fun σ2 H2 => tb { D with nx := N, ct := N, bk := D.nx } σ2 H2) := by
  refine ⟨fun i m σ H => m = n - i ∧ i ≤ n ∧ Pv i σ H, ⟨n, by simp, Nat.zero_le _, h0⟩, ?_⟩
  rintro i m σ H ⟨rfl, hi, p⟩
  by_cases hlt : i < n
  · refine .inr ⟨hlt, Pv (i + 1), fun σ' H' p' => ⟨n - (i + 1), by omega, rfl, hlt, p'⟩, fun x H' y => ?_⟩
    obtain ⟨e, y⟩ := y
    subst e y
    exact hs i σ _ hlt p
  · have e : i = n := by omega
    subst e
    exact .inl ⟨Nat.le_refl _, hd σ H p⟩
end L2

namespace L2
open PySem PySem.Spec PyProof.Rows

abbrev R2 := V → V → Hp → VK → Prop
/-- a two-place operation on values: f is binaryOp op, inplaceOp op or compareOp op -/
def OpR (X : Cx) (f : Value → Value → Sem Value) (r : R2) : Prop :=
  ∀ (pins : List (Addr × Obj)) (s : Shared) (σ : St) (H : Hp) (x y : V) (v u : Value) (Q : VK), Inv X pins σ H s → RelV x v → RelV y u → r x y H Q →
    wpAny (model X.prog X.w) X.A (f v u) (EP X pins σ Q) X.xe s
/-- a one-place operation -/
def UnR (X : Cx) (f : Value → Sem Value) (r : V → Hp → VK → Prop) : Prop :=
  ∀ (pins : List (Addr × Obj)) (s : Shared) (σ : St) (H : Hp) (x : V) (v : Value) (Q : VK), Inv X pins σ H s → RelV x v → r x H Q →
    wpAny (model X.prog X.w) X.A (f v) (EP X pins σ Q) X.xe s
/-- a call of a value that is known (a builtin, a type) with values -/
def CallR (X : Cx) (f : Value) (r : List V → Hp → VK → Prop) : Prop :=
  ∀ (pins : List (Addr × Obj)) (s : Shared) (σ : St) (H : Hp) (xs : List V) (us : List Value) (Q : VK), Inv X pins σ H s → Vals xs us → r xs H Q →
    wpAny (model X.prog X.w) X.A (call f us) (EP X pins σ Q) X.xe s
/-- a value's truth -/
def TruR (X : Cx) (r : V → Hp → (Bool → Hp → Prop) → Prop) : Prop :=
  ∀ (pins : List (Addr × Obj)) (s : Shared) (σ : St) (H : Hp) (x : V) (v : Value) (Q : Bool → Hp → Prop), Inv X pins σ H s → RelV x v → r x H Q →
    wpAny (model X.prog X.w) X.A (truthy v) (TP X pins σ Q) X.xe s

def tOp (r : R2) (ta tb : TE) : TE := fun σ H Q => ta σ H fun x H1 => tb σ H1 fun y H2 => r x y H2 Q
def tUn (r : V → Hp → VK → Prop) (ta : TE) : TE := fun σ H Q => ta σ H fun x H1 => r x H1 Q
/-- ints in, under C, and a value out -/
def rI (C : Int → Int → Prop) (g : Int → Int → V) : R2 := fun x y H Q => ∃ i j, x = .int i ∧ y = .int j ∧ C i j ∧ Q (g i j) H
def rI0 (g : Int → Int → V) : R2 := fun x y H Q => ∃ i j, x = .int i ∧ y = .int j ∧ Q (g i j) H
def rU (g : Int → V) : V → Hp → VK → Prop := fun x H Q => ∃ i, x = .int i ∧ Q (g i) H

section
variable {X : Cx} {a b c : Expr} {ta tb tc : TE} {pos : Pos}

theorem binT (ha : PE X a ta) (hb : PE X b tb) {pins : List (Addr × Obj)} {s : Shared} {σ : St} {H : Hp} {R : V → V → Hp → Prop} (I : Inv X pins σ H s)
    (h : ta σ H fun x H1 => tb σ H1 fun y H2 => R x y H2) {Q : Value → Shared → Prop} {f : Value → Value → Sem Value}
    (hf : ∀ v u s2 x y H2, Inv X pins σ H2 s2 → RelV x v → RelV y u → R x y H2 → wpAny (model X.prog X.w) X.A (f v u) Q X.xe s2) :
    wpAny (model X.prog X.w) X.A (eval a X.env) (fun v s₁ => wpAny (model X.prog X.w) X.A (eval b X.env) (fun u s₂ => wpAny (model X.prog X.w) X.A (f v u) Q X.xe s₂) X.xe s₁) X.xe s := by
  refine thn (ha pins s σ H _ I h) fun v s1 ⟨x, H1, I1, r1, q1⟩ => ?_
  refine thn (hb pins s1 σ H1 _ I1 q1) fun u s2 ⟨y, H2, I2, r2, q2⟩ => ?_
  exact hf v u s2 x y H2 I2 r1 r2 q2

theorem pe_op {op : Operator} {r : R2} (ho : OpR X (binaryOp op) r) (ha : PE X a ta) (hb : PE X b tb) : PE X (.BinOp a op b pos) (tOp r ta tb) := by
  intro pins s σ H Q I h
  exact wpAny_BinOp (binT ha hb I h fun v u s2 x y H2 I2 rx ry q => ho pins s2 σ H2 x y v u Q I2 rx ry q)
theorem pe_un {op : UnaryOp} {r : V → Hp → VK → Prop} (ho : UnR X (unaryOp op) r) (ha : PE X a ta) : PE X (.UnaryOp op a pos) (tUn r ta) := by
  intro pins s σ H Q I h
  exact UnaryOp_ (thn (ha pins s σ H _ I h) fun v s1 ⟨x, H1, I1, r1, q1⟩ => ho pins s1 σ H1 x v Q I1 r1 q1)
/-! ### ints -/
theorem opI {f : Value → Value → Sem Value} {C : Int → Int → Prop} {g : Int → Int → Int}
    (rule : ∀ (i j : Int) (t u : Tok) (s : Shared) (Q : Value → Shared → Prop) (E : Value → Shared → Prop), C i j → Q (.int (g i j) s.toks) { s with toks := s.toks + 1 } → wpAny (model X.prog X.w) X.A (f (.int i t) (.int j u)) Q E s) :
    OpR X f (rI C fun i j => .int (g i j)) := by
  intro pins s σ H x y v u Q I rx ry h
  obtain ⟨i, j, rfl, rfl, hc, q⟩ := h
  obtain ⟨t, rfl⟩ := rx
  obtain ⟨t', rfl⟩ := ry
  exact rule i j t t' s _ _ hc ⟨.int (g i j), H, I.tok _, ⟨_, rfl⟩, q⟩
theorem opI0 {f : Value → Value → Sem Value} {g : Int → Int → Int}
    (rule : ∀ (i j : Int) (t u : Tok) (s : Shared) (Q : Value → Shared → Prop) (E : Value → Shared → Prop), Q (.int (g i j) s.toks) { s with toks := s.toks + 1 } → wpAny (model X.prog X.w) X.A (f (.int i t) (.int j u)) Q E s) :
    OpR X f (rI0 fun i j => .int (g i j)) := by
  intro pins s σ H x y v u Q I rx ry h
  obtain ⟨i, j, rfl, rfl, q⟩ := h
  obtain ⟨t, rfl⟩ := rx
  obtain ⟨t', rfl⟩ := ry
  exact rule i j t t' s _ _ ⟨.int (g i j), H, I.tok _, ⟨_, rfl⟩, q⟩
theorem opB0 {f : Value → Value → Sem Value} {g : Int → Int → Bool}
    (rule : ∀ (i j : Int) (t u : Tok) (s : Shared) (Q : Value → Shared → Prop) (E : Value → Shared → Prop), Q (.bool (g i j)) s → wpAny (model X.prog X.w) X.A (f (.int i t) (.int j u)) Q E s) :
    OpR X f (rI0 fun i j => .bl (g i j)) := by
  intro pins s σ H x y v u Q I rx ry h
  obtain ⟨i, j, rfl, rfl, q⟩ := h
  obtain ⟨t, rfl⟩ := rx
  obtain ⟨t', rfl⟩ := ry
  exact rule i j t t' s _ _ ⟨.bl (g i j), H, I, rfl, q⟩

def CDiv (i j : Int) : Prop := 0 < j ∧ j < 1073741824
def CDivN (i j : Int) : Prop := j ≠ 0 ∧ j.natAbs < 1073741824
def CPow (i j : Int) : Prop := 0 ≤ j ∧ j ≤ 1000000 ∧ i.natAbs < 2 ^ 64
def CMul (i j : Int) : Prop := (-(2 ^ 64) < i ∧ i < 2 ^ 64) ∨ (-(2 ^ 64) < j ∧ j < 2 ^ 64)
theorem CMul.ok {i j : Int} (h : CMul i j) : IntMulOk i j := by
  rcases h with ⟨h1, h2⟩ | ⟨h1, h2⟩
  · exact .of_left (intBits_le_64 h1 h2)
  · exact .of_right (intBits_le_64 h1 h2)
theorem op_add : OpR X (binaryOp .Add) (rI0 fun i j => .int (i + j)) := opI0 fun _ _ _ _ _ _ _ q => add_int q
theorem op_sub : OpR X (binaryOp .Sub) (rI0 fun i j => .int (i - j)) := opI0 fun _ _ _ _ _ _ _ q => sub_int q
theorem op_mul : OpR X (binaryOp .Mult) (rI CMul fun i j => .int (i * j)) := opI fun _ _ _ _ _ _ _ hc q => mul_int q hc.ok
/-- // by a positive divisor -/
theorem op_fdiv : OpR X (binaryOp .FloorDiv) (rI CDiv fun i j => .int (i / j)) := opI fun i j _ _ _ _ _ hc q => by
  have h1 : (0 : Int) < j := hc.1
  have h2 : j < 1073741824 := hc.2
  exact floordiv_int (by omega) (by rw [Int.fdiv_eq_ediv_of_nonneg i (by omega)]; exact q) (.inl (PyProof.noPylong_small (by omega)))
/-- % by a positive divisor of any size -/
theorem op_mod : OpR X (binaryOp .Mod) (rI (fun _ j => 0 < j) fun i j => .int (i % j)) := opI fun i j _ _ _ _ _ hc q => by
  have h1 : (0 : Int) < j := hc
  exact mod_int' (by omega) (by rw [Int.fmod_eq_emod_of_nonneg i (by omega)]; exact q)
theorem unI {f : Value → Sem Value} {g : Int → Int}
    (rule : ∀ (i : Int) (t : Tok) (s : Shared) (Q : Value → Shared → Prop) (E : Value → Shared → Prop), Q (.int (g i) s.toks) { s with toks := s.toks + 1 } → wpAny (model X.prog X.w) X.A (f (.int i t)) Q E s) :
    UnR X f (rU fun i => .int (g i)) := by
  intro pins s σ H x v Q I rx h
  obtain ⟨i, rfl, q⟩ := h
  obtain ⟨t, rfl⟩ := rx
  exact rule i t s _ _ ⟨.int (g i), H, I.tok _, ⟨_, rfl⟩, q⟩
theorem un_neg : UnR X (unaryOp .USub) (rU fun i => .int (-i)) := unI fun _ _ _ _ _ q => neg_int q
/-! ### bools among ints: n += (a < b) -/
end

/-! ### comparisons -/
/-- the scalars that == tells apart as data does -/
def scal : V → V → Bool
  | .non, .non => true | .non, .int _ => true | .int _, .non => true | .non, .bl _ => true | .bl _, .non => true | .non, .str _ => true | .str _, .non => true
  | .int _, .int _ => true | .bl _, .bl _ => true | .str _, .str _ => true | .byt _, .byt _ => true
  | .int _, .str _ => true | .str _, .int _ => true | .bl _, .str _ => true | .str _, .bl _ => true
  | _, _ => false
def rEq : R2 := fun x y H Q => scal x y = true ∧ Q (.bl (decide (x = y))) H
def rNe : R2 := fun x y H Q => scal x y = true ∧ Q (.bl (!decide (x = y))) H

theorem dec_int {i j : Int} : decide (V.int i = V.int j) = (i == j) := by
  rw [Bool.eq_iff_iff]
  simp
theorem dec_bl {i j : Bool} : decide (V.bl i = V.bl j) = (i == j) := by
  rw [Bool.eq_iff_iff]
  simp
theorem dec_str {i j : Str} : decide (V.str i = V.str j) = (i == j) := by
  rw [Bool.eq_iff_iff]
  simp
theorem dec_byt {i j : Array UInt8} : decide (V.byt i = V.byt j) = (i.toList == j.toList) := by
  rw [Bool.eq_iff_iff]
  cases i
  cases j
  simp

section
variable {X : Cx} {a b c : Expr} {ta tb tc : TE} {pos : Pos}
theorem fin_bl {pins : List (Addr × Obj)} {σ : St} {H : Hp} {s : Shared} {Q : VK} {k k' : Bool} (I : Inv X pins σ H s) (q : Q (.bl k) H) (e : k = k') : EP X pins σ Q (.bool k') s := by
  subst e
  exact ⟨.bl k, H, I, rfl, q⟩
theorem op_eq : OpR X (compareOp .Eq) rEq := by
  intro pins s σ H x y v u Q I rx ry h
  obtain ⟨hs, q⟩ := h
  cases x with
  | non =>
    cases rx
    cases y with
    | non => cases ry; exact PySem.EqNone.eq_none_none (fin_bl I q (by simp))
    | bl j => cases ry; exact PySem.EqNone.eq_none_bool (fin_bl I q (by simp))
    | int j => obtain ⟨t', rfl⟩ := ry; exact PySem.EqNone.eq_none_int (fin_bl I q (by simp))
    | str j => obtain ⟨t', rfl⟩ := ry; exact PySem.EqNone.eq_none_str (fin_bl I q (by simp))
    | _ => exact absurd (show false = true from hs) Bool.false_ne_true
  | bl i =>
    cases rx
    cases y with
    | non => cases ry; exact PySem.EqNone.eq_bool_none (fin_bl I q (by simp))
    | bl j => cases ry; exact eq_bool (fin_bl I q dec_bl)
    | str j => obtain ⟨t', rfl⟩ := ry; exact PySem.EqMixed.eq_bool_str (fin_bl I q (by simp))
    | _ => exact absurd (show false = true from hs) Bool.false_ne_true
  | int i =>
    obtain ⟨t, rfl⟩ := rx
    cases y with
    | non => cases ry; exact PySem.EqNone.eq_int_none (fin_bl I q (by simp))
    | int j => obtain ⟨t', rfl⟩ := ry; exact eq_int (fin_bl I q dec_int)
    | str j => obtain ⟨t', rfl⟩ := ry; exact PySem.EqMixed.eq_int_str (fin_bl I q (by simp))
    | _ => exact absurd (show false = true from hs) Bool.false_ne_true
  | str i =>
    obtain ⟨t, rfl⟩ := rx
    cases y with
    | non => cases ry; exact PySem.EqNone.eq_str_none (fin_bl I q (by simp))
    | bl j => cases ry; exact PySem.EqMixed.eq_str_bool (fin_bl I q (by simp))
    | int j => obtain ⟨t', rfl⟩ := ry; exact PySem.EqMixed.eq_str_int (fin_bl I q (by simp))
    | str j => obtain ⟨t', rfl⟩ := ry; exact eq_str (fin_bl I q dec_str)
    | _ => exact absurd (show false = true from hs) Bool.false_ne_true
  | byt i =>
    obtain ⟨t, rfl⟩ := rx
    cases y with
    | byt j => obtain ⟨t', rfl⟩ := ry; exact PySem.W.eq_bytes (fin_bl I q dec_byt)
    | _ => exact absurd (show false = true from hs) Bool.false_ne_true
  | _ => cases y <;> exact absurd (show false = true from hs) Bool.false_ne_true
theorem op_lt : OpR X (compareOp .Lt) (rI0 fun i j => .bl (decide (i < j))) := opB0 fun _ _ _ _ _ _ _ q => lt_int q
theorem op_le : OpR X (compareOp .LtE) (rI0 fun i j => .bl (decide (i ≤ j))) := opB0 fun _ _ _ _ _ _ _ q => le_int q
theorem op_gt : OpR X (compareOp .Gt) (rI0 fun i j => .bl (decide (j < i))) := opB0 fun _ _ _ _ _ _ _ q => gt_int q
/-- is, is not of two objects that are tracked lists or instances -/
def isObj : HO → Bool
  | .lst _ => true
  | .ins _ _ _ => true
  | _ => false
/-- two rules for one operation: by cases -/
theorem OpR.or {f : Value → Value → Sem Value} {r r' : R2} (h : OpR X f r) (h' : OpR X f r') : OpR X f (fun x y H Q => r x y H Q ∨ r' x y H Q) := by
  intro pins s σ H x y v u Q I rx ry q
  rcases q with q | q
  · exact h pins s σ H x y v u Q I rx ry q
  · exact h' pins s σ H x y v u Q I rx ry q

theorem nomark (b : Expr) {op : CmpOp} (h : op ≠ .In := by decide) (h2 : op ≠ .NotIn := by decide) : behindInMarks op b = false := by
  have e1 : (op == CmpOp.In) = false := by cases op <;> first | rfl | exact absurd rfl h
  have e2 : (op == CmpOp.NotIn) = false := by cases op <;> first | rfl | exact absurd rfl h2
  cases b <;> simp [behindInMarks, e1, e2]
/-- a comparison as a value; hm: nomark b, or (for in, not in) by with_unfolding_all rfl -/
theorem pe_cmpR {op : CmpOp} {r : R2} (ho : OpR X (compareOp op) r) (ha : PE X a ta) (hb : PE X b tb) (hm : behindInMarks op b = false) : PE X (.Compare a [op] [b] pos) (tOp r ta tb) := by
  intro pins s σ H Q I h
  exact wpAny_Compare1 (binT ha hb I h fun v u s2 x y H2 I2 rx ry q => ho pins s2 σ H2 x y v u Q I2 rx ry q) hm
/-- a reading of a value as a test -/
def tTest (t : TE) : TT := fun σ H Q => t σ H fun x H' => ∃ k, x = .bl k ∧ Q k H'
theorem pt_cmpR {op : CmpOp} {r : R2} (ho : OpR X (compareOp op) r) (ha : PE X a ta) (hb : PE X b tb) (hm : behindInMarks op b = false) : PT X (.Compare a [op] [b] pos) (tTest (tOp r ta tb)) := by
  intro pins s σ H Q I h
  refine wpAny_isTrue_Compare1 (thn (ha pins s σ H _ I h) fun v s1 ⟨x, H1, I1, r1, q1⟩ => thn (hb pins s1 σ H1 _ I1 q1) fun u s2 ⟨y, H2, I2, r2, q2⟩ =>
    thn (ho pins s2 σ H2 x y v u _ I2 r1 r2 q2) fun c s3 ⟨z, H3, I3, r3, k, e, q3⟩ => ?_) hm
  subst e
  cases r3
  exact wpAny_truthy_bool ⟨H3, I3, q3⟩
/-- a op1 b op2 c -/
def tChain (r r' : R2) (ta tb tc : TE) : TE := fun σ H Q => ta σ H fun x H1 => tb σ H1 fun y H2 => r x y H2 fun z H3 => ∃ k, z = .bl k ∧
  (if k = true then tc σ H3 fun w' H4 => r' y w' H4 Q else Q (.bl false) H3)
theorem pe_chain {op op' : CmpOp} {r r' : R2} (ho : OpR X (compareOp op) r) (ho' : OpR X (compareOp op') r') (ha : PE X a ta) (hb : PE X b tb) (hc : PE X c tc)
    (hm : lastMarks [op, op'] [b, c] = false := by with_unfolding_all rfl) : PE X (.Compare a [op, op'] [b, c] pos) (tChain r r' ta tb tc) := by
  intro pins s σ H Q I h
  refine Compare_chain (thn (ha pins s σ H _ I h) fun v s1 ⟨x, H1, I1, r1, q1⟩ => chain_link (thn (hb pins s1 σ H1 _ I1 q1) fun u s2 ⟨y, H2, I2, r2, q2⟩ =>
    thn (ho pins s2 σ H2 x y v u _ I2 r1 r2 q2) fun d s3 ⟨z, H3, I3, r3, k, e, q3⟩ => ?_)) hm
  subst e
  cases r3
  refine wpAny_truthy_bool ?_
  cases k with
  | false => exact ite_ff ⟨.bl false, H3, I3, rfl, q3⟩
  | true => exact ite_tt (chain_last (thn (hc pins s3 σ H3 _ I3 q3) fun w' s4 ⟨z', H4, I4, r4, q4⟩ => ho' pins s4 σ H4 y z' u w' Q I4 r2 r4 q4))
theorem pt_chain {op op' : CmpOp} {r r' : R2} (ho : OpR X (compareOp op) r) (ho' : OpR X (compareOp op') r') (ha : PE X a ta) (hb : PE X b tb) (hc : PE X c tc)
    (hm : lastMarks [op, op'] [b, c] = false := by with_unfolding_all rfl) : PT X (.Compare a [op, op'] [b, c] pos) (tTest (tChain r r' ta tb tc)) := by
  intro pins s σ H Q I h
  refine isTrue_chain (thn (ha pins s σ H _ I h) fun v s1 ⟨x, H1, I1, r1, q1⟩ => test_link (thn (hb pins s1 σ H1 _ I1 q1) fun u s2 ⟨y, H2, I2, r2, q2⟩ =>
    thn (ho pins s2 σ H2 x y v u _ I2 r1 r2 q2) fun d s3 ⟨z, H3, I3, r3, k, e, q3⟩ => ?_)) hm
  subst e
  cases r3
  refine wpAny_truthy_bool ?_
  cases k with
  | false =>
    obtain ⟨k', e', q'⟩ := q3
    cases e'
    exact ite_ff ⟨H3, I3, q'⟩
  | true =>
    refine ite_tt (test_last (thn (hc pins s3 σ H3 _ I3 q3) fun w' s4 ⟨z', H4, I4, r4, q4⟩ => thn (ho' pins s4 σ H4 y z' u w' _ I4 r2 r4 q4) fun d' s5 ⟨z2, H5, I5, r5, k2, e2, q5⟩ => ?_))
    subst e2
    cases r5
    exact wpAny_truthy_bool ⟨H5, I5, q5⟩

/-! ### truth -/
/-- a value's truth by the abstract heap -/
def TruV (K : PySem.W.Frag) (x : V) (H : Hp) (k : Bool) : Prop :=
  match x with
  | .non => k = false
  | .bl b => k = b
  | .int i => k = (i != 0)
  | .str y => y.length ≤ sizeLine ∧ k = ((y.length : Int) != 0)
  | .byt y => y.size ≤ sizeLine ∧ k = ((y.size : Int) != 0)
  | .ref p => (∃ xs, SqL K H p xs ∧ k = !xs.isEmpty) ∨ (∃ xs, SqT K H p xs ∧ k = !xs.isEmpty) ∨ ∃ kvs, H p = some (.dK kvs) ∧ k = !kvs.isEmpty
  | _ => False
theorem line63 : (sizeLine : Nat) < 2 ^ 63 := by rw [sizeLine_eq]; decide
/-! ### strs and bytes -/
def PlainIxT (b : Expr) : Prop := ∀ o i, subscripted b false o i = operate [o, i] (getItem o i)
/-! ### scalar builtins, by CallR -/
theorem vals1 {x : V} {us : List Value} (r : Vals [x] us) : ∃ u, us = [u] ∧ RelV x u := by
  cases r with
  | cons r1 r2 => cases r2; exact ⟨_, rfl, r1⟩
theorem vals2 {x y : V} {us : List Value} (r : Vals [x, y] us) : ∃ u w', us = [u, w'] ∧ RelV x u ∧ RelV y w' := by
  cases r with
  | cons r1 r2 =>
    cases r2 with
    | cons r3 r4 => cases r4; exact ⟨_, _, rfl, r1, r3⟩
/-- len of a str, a bytes, a list, a tuple -/
def LenV (K : PySem.W.Frag) (x : V) (H : Hp) (n : Nat) : Prop :=
  match x with
  | .str y => y.length ≤ sizeLine ∧ n = y.length
  | .byt y => y.size ≤ sizeLine ∧ n = y.size
  | .ref p => (∃ xs, SqL K H p xs ∧ n = xs.length) ∨ ∃ xs, SqT K H p xs ∧ n = xs.length
  | _ => False
end
end L2

namespace L2
open PySem PySem.Spec PyProof.Rows

/-! ### an instance, its attributes a map -/
structure ObjM (h : Heap) (x dx C : Addr) (mA : Str → Option Value) : Prop where
  obj : h.get? x = some (PySem.W.instObj C dx)
  ns : h.Ns1 dx mA
  ne : dx ≠ x

theorem lookIn_ns {h : Heap} {dx : Addr} {mA : Str → Option Value} (n : h.Ns1 dx mA) : ∃ od, h.get? dx = some od ∧ ∀ name, PySem.W.lookIn name od = some (mA name) := by
  obtain ⟨o, es, ep, ho, hd, hk, _, hm⟩ := n
  refine ⟨o, ho, fun name => ?_⟩
  have e := hm name
  unfold nsFind findBy at e
  rw [← Array.find?_toList] at e
  unfold PySem.W.lookIn
  rw [hd]
  dsimp only
  split
  · rename_i y q
    rw [q] at e
    exact congrArg some e
  · rename_i q
    rw [q] at e
    have a : es.toList.any (·.refKey) = false := by
      rw [List.any_eq_false]
      intro y hy
      obtain ⟨z, t, hkey⟩ := hk y (Array.mem_toList_iff.mp hy)
      simp [DictEntry.refKey, hkey]
    have a' : ¬ es.toList.any (·.refKey) = true := by rw [a]; exact Bool.false_ne_true
    rw [if_neg a']
    exact congrArg some e

theorem ObjM.look {h : Heap} {x dx C : Addr} {mA : Str → Option Value} (I : ObjM h x dx C mA) : ∃ od, PySem.W.InstAt h x (PySem.W.instObj C dx) C (some od) ∧ ∀ name, PySem.W.lookIn name od = some (mA name) :=
  let ⟨od, ho, hl⟩ := lookIn_ns I.ns
  ⟨od, ⟨I.obj, rfl, rfl, ho⟩, hl⟩

section
variable {prog : Program} {w : World} {A : Around} {E : Value → Shared → Prop} {s : Shared} {K : PySem.W.Frag} {x dx C f : Addr} {mA : Str → Option Value} {name : Str} {v : Value}

theorem get_map {expr : Bool} {Q : Value → Shared → Prop} (X : K.In s.heap) (I : ObjM s.heap x dx C mA) (hg : PySem.W.plainGet K C name = true) (hh : PySem.W.hasDictIn K C = true)
    (ha : PySem.W.findIn K (.ref C) name = some none) (hv : mA name = some v) (hv' : PySem.W.handedIn v = true) (h : Q v { s with toks := s.toks + 1 }) :
    wpAny (model prog w) A (getAttr (.ref x) name expr) Q E s := by
  obtain ⟨od, J, hl⟩ := I.look
  exact PySem.W.get_value X J (PySem.W.plainGet_of hg).1 (PySem.W.findObj_own hh ha rfl (by rw [hl, hv])) hv' h

theorem get_meth {pl : Sem Bool} {Q : Value × List Value → Shared → Prop} (X : K.In s.heap) (I : ObjM s.heap x dx C mA) (hg : PySem.W.plainGet K C name = true)
    (hf : PySem.W.findIn K (.ref C) name = some (some (.ref f))) (ht : PySem.W.isFn K (.ref f) = true) (hv : mA name = none) (h : Q (.ref f, [.ref x]) s) :
    wpAny (model prog w) A (getMethod (.ref x) name pl) Q E s := by
  obtain ⟨od, J, hl⟩ := I.look
  exact PySem.W.method_fn X J (PySem.W.plainGet_of hg).1 (PySem.W.plainGet_of hg).2 hf (beq_iff_eq.mp ht) (by show (PySem.W.lookIn name od).map (·.isSome) = some false; rw [hl, hv]; rfl) h

theorem set_map {ns : List Str} {Q : Unit → Shared → Prop} (X : K.In s.heap) (I : ObjM s.heap x dx C mA)
    (hs : PySem.W.findIn K (.ref C) "__setattr__" = some (some (.builtin "object.__setattr__"))) (hp : PySem.W.plainOver K C = true) (ht : PySem.W.takerIn K C name = some none) (hh : PySem.W.hasDictIn K C = true)
    (hw : PySem.Within mA ns) (hsz : ns.length ≤ sizeLine)
    (h : ∀ h', ObjM h' x dx C (fun y => if y = name then some v else mA y) → Heap.SameBut dx s.heap h' → Q () { s with heap := h', toks := s.toks + 2 }) :
    wpAny (model prog w) A (setAttr (.ref x) name v) Q E s := by
  obtain ⟨od, J, hl⟩ := I.look
  refine PySem.W.set_plain X J hs (PySem.W.osa_open (s := { s with toks := s.toks + 1 }) (r := none) X J hp ht fun b => ?_)
  obtain ⟨cd, hc, hd'⟩ := PySem.W.any_some hh
  have hx : s.heap.get? x = some ⟨.ref C, some dx, .plain, #[]⟩ := I.obj
  refine wpAny_bind (wpAny_pure (wpAny_bind (wpAny_bind (wpAny_loadPart hx (wpAny_bind (PySem.W.Looks.here (s := { s with toks := s.toks + 1 }) (PySem.W.looks_clsIn X hc) ?_))))))
  rw [hd']
  refine wpAny_pure (a := some dx) (wpAny_bind (wpAny_pure (wpAny_bind ?_)))
  refine wpAny_nsSet1 (s := { s with toks := s.toks + 1 }) I.ns fun h' hn2 hs2 => ?_
  obtain ⟨oD, esD, epD, hoD, hdD, hcD⟩ := hn2.count (PySem.Within.cons name v hw)
  refine wpAny_bind (wpAny_lookBehind hoD (by rw [hdD]; exact pastItsLine_dict (Nat.le_trans hcD (by rw [List.length_cons]; omega))) ?_)
  exact wpAny_pure (h _ ⟨(hs2.2 _ (Ne.symm I.ne)).trans I.obj, hn2, I.ne⟩ hs2)

/-- C(..): the dict at the heap's end, the instance behind it; then its __init__ -/
theorem make_map {R : Result → Shared → Prop} {vs : List Value} {kw : List (Str × Value)} (X : K.In s.heap) (hm : PySem.W.makesIn K C = true)
    (hi : PySem.W.findIn K (.ref C) "__init__" = some (some (.ref f))) (hf : PySem.W.typeIn K (.ref f) = some (.type "function"))
    (h : codeAny (model prog w) (A.under (.builtin "type.__call__" ⟨.ref C :: vs, kw⟩)) (.call (.ref f) ⟨.ref (s.heap.objs.size + 1) :: vs, kw⟩) (PySem.W.InitBack (s.heap.objs.size + 1) R)
      { s with heap := (s.heap.push PySem.W.emptyDict).push (PySem.W.instObj C s.heap.objs.size) }) :
    codeAny (model prog w) A (.call (.ref C) ⟨vs, kw⟩) R s := by
  obtain ⟨hh, g, d, t, os⟩ := s
  exact PySem.W.make_core (PySem.W.makes_of X hm) (PySem.W.looks_findIn X hi) (fun self => PySem.W.bind_fn X self hf) (.inl rfl) h
/-- C() where there is no __init__ but object's -/
theorem make_map0 {R : Result → Shared → Prop} (X : K.In s.heap) (hm : PySem.W.makesIn K C = true)
    (hi : PySem.W.findIn K (.ref C) "__init__" = some (some (.builtin "object.__init__")))
    (hb : ∀ self, PySem.W.Looks (model prog w) s.heap (bindSpecial (.builtin "object.__init__") self) (.builtin "object.__init__", [self]))
    (h : codeAny (model prog w) (A.under (.builtin "type.__call__" ⟨[.ref C], []⟩)) (.call (.builtin "object.__init__") ⟨[.ref (s.heap.objs.size + 1)], []⟩) (PySem.W.InitBack (s.heap.objs.size + 1) R)
      { s with heap := (s.heap.push PySem.W.emptyDict).push (PySem.W.instObj C s.heap.objs.size) }) :
    codeAny (model prog w) A (.call (.ref C) ⟨[], []⟩) R s := by
  obtain ⟨hh, g, d, t, os⟩ := s
  exact PySem.W.make_core (PySem.W.makes_of X hm) (PySem.W.looks_findIn X hi) hb (.inr ⟨rfl, rfl⟩) h
end

/-! ### the attributes as a list of pairs -/
def putF (f : Str) (v : V) : List (Str × V) → List (Str × V)
  | [] => [(f, v)]
  | (g, x) :: r => if g = f then (g, v) :: r else (g, x) :: putF f v r
theorem lookup_putF (f g : Str) (v : V) : ∀ fs : List (Str × V), (putF f v fs).lookup g = if g = f then some v else fs.lookup g
  | [] => by
    show List.lookup g [(f, v)] = _
    by_cases h : g = f
    · have hb : (g == f) = true := beq_iff_eq.mpr h
      simp only [List.lookup, hb, if_pos h]
    · have hb : (g == f) = false := beq_eq_false_iff_ne.mpr h
      simp only [List.lookup, hb, if_neg h]
  | (k, x) :: r => by
    have ih := lookup_putF f g v r
    rw [show putF f v ((k, x) :: r) = (if k = f then (k, v) :: r else (k, x) :: putF f v r) from rfl]
    by_cases hk : k = f
    · rw [if_pos hk]
      by_cases h : g = k
      · have hb : (g == k) = true := beq_iff_eq.mpr h
        simp only [List.lookup, hb, if_pos (h.trans hk)]
      · have hb : (g == k) = false := beq_eq_false_iff_ne.mpr h
        simp only [List.lookup, hb, if_neg (fun e : g = f => h (e.trans hk.symm))]
    · rw [if_neg hk]
      by_cases h : g = k
      · have hb : (g == k) = true := beq_iff_eq.mpr h
        simp only [List.lookup, hb, if_neg (fun e : g = f => hk (h.symm.trans e))]
      · have hb : (g == k) = false := beq_eq_false_iff_ne.mpr h
        simp only [List.lookup, hb]
        exact ih
theorem keys_putF (f : Str) (v : V) : ∀ fs : List (Str × V), f ∈ (putF f v fs).map (·.1) ∧ ∀ g, g ∈ fs.map (·.1) → g ∈ (putF f v fs).map (·.1)
  | [] => ⟨by simp [putF], fun g h => by simp at h⟩
  | (k, x) :: r => by
    obtain ⟨i1, i2⟩ := keys_putF f v r
    rw [show putF f v ((k, x) :: r) = (if k = f then (k, v) :: r else (k, x) :: putF f v r) from rfl]
    by_cases hk : k = f
    · rw [if_pos hk]
      subst hk
      exact ⟨by simp, fun g h => by simpa using h⟩
    · rw [if_neg hk]
      refine ⟨?_, fun g h => ?_⟩
      · rw [List.map_cons]
        exact List.mem_cons_of_mem _ i1
      · rw [List.map_cons] at h ⊢
        rcases List.mem_cons.mp h with e | e
        · exact List.mem_cons.mpr (.inl e)
        · exact List.mem_cons_of_mem _ (i2 g e)
theorem length_putF (f : Str) (v : V) : ∀ fs : List (Str × V), (putF f v fs).length ≤ fs.length + 1
  | [] => by simp [putF]
  | (k, x) :: r => by
    have ih := length_putF f v r
    rw [show putF f v ((k, x) :: r) = (if k = f then (k, v) :: r else (k, x) :: putF f v r) from rfl]
    by_cases hk : k = f
    · rw [if_pos hk, List.length_cons, List.length_cons]; omega
    · rw [if_neg hk, List.length_cons, List.length_cons]; omega

theorem RelO.some_of {v : V} {o : Option Value} (r : RelO (some v) o) : ∃ u, o = some u ∧ RelV v u := by
  cases o with
  | none => exact (show False from r).elim
  | some u => exact ⟨u, rfl, r⟩
theorem RelO.none_of {o : Option Value} (r : RelO none o) : o = none := by
  cases o with
  | none => rfl
  | some u => exact (show False from r).elim
theorem handed_of {v : V} {u : Value} (r : RelV v u) : PySem.W.handedIn u = true := by
  cases v with
  | non => cases (show u = Value.none from r); rfl
  | bl b => cases (show u = Value.bool b from r); rfl
  | int i => obtain ⟨t, e⟩ := (show ∃ t, u = Value.int i t from r); cases e; rfl
  | str x => obtain ⟨t, e⟩ := (show ∃ t, u = Value.str x t from r); cases e; rfl
  | byt b => obtain ⟨t, e⟩ := (show ∃ t, u = Value.bytes b t from r); cases e; rfl
  | flt b => obtain ⟨t, e⟩ := (show ∃ t, u = Value.float b t from r); cases e; rfl
  | ref a => cases (show u = Value.ref a from r); rfl
  | ty n => cases (show u = Value.type n from r); rfl

section
variable {P : Program} {w : World} {H H' : Hp} {h h' : Heap} {a C dx : Addr} {fs fs' : List (Str × V)}
theorem ins_get (hok : HOk P w H h) (e : H a = some (.ins C dx fs)) : ∃ mA, ObjM h a dx C mA ∧ (∀ f, RelO (fs.lookup f) (mA f)) ∧ PySem.Within mA (fs.map (·.1)) ∧ fs.length ≤ 1000 ∧ H dx = some (.own a) := by
  obtain ⟨d, z, ne, ob, mA, n, r, q⟩ := (show ObjOk P w H h a (.ins C dx fs) from hok a _ e)
  exact ⟨mA, ⟨ob, n, ne⟩, r, q, z, d⟩
end

/-! ### what of the text a class must have -/
structure Cls (K : PySem.W.Frag) (C : Addr) : Prop where
  pg : PySem.W.plainGet K C Str.empty = true
  hd : PySem.W.hasDictIn K C = true
  po : PySem.W.plainOver K C = true
  sa : PySem.W.findIn K (.ref C) "__setattr__" = some (some (.builtin "object.__setattr__"))
theorem Cls.get {K : PySem.W.Frag} {C : Addr} (c : Cls K C) (f : Str) : PySem.W.plainGet K C f = true := c.pg
/-- no class of it has the name -/
def NoAttr (K : PySem.W.Frag) (C : Addr) (f : Str) : Prop := PySem.W.findIn K (.ref C) f = some none
theorem NoAttr.taker {K : PySem.W.Frag} {C : Addr} {f : Str} (n : NoAttr K C f) : PySem.W.takerIn K C f = some none := by
  unfold PySem.W.takerIn
  rw [show PySem.W.findIn K (.ref C) f = some none from n]
  rfl
/-- a constant of the class -/
structure Con (K : PySem.W.Frag) (C : Addr) (f : Str) (v : V) (u : Value) : Prop where
  at_ : PySem.W.findIn K (.ref C) f = some (some u)
  rel : RelV v u
  get : PySem.W.specialIn K u "__get__" = some none
  cp : PySem.W.copiedNames.contains f = false
/-- a method: a plain def of the class or of one above it -/
structure Meth (K : PySem.W.Frag) (C : Addr) (m : Str) (f : Addr) : Prop where
  at_ : PySem.W.findIn K (.ref C) m = some (some (.ref f))
  fn : PySem.W.isFn K (.ref f) = true
  kp : PySem.W.keepIn K (.ref f) = true

section
variable {X : Cx} {pins : List (Addr × Obj)} {σ : St} {H : Hp} {s : Shared} {a C dx : Addr} {fs : List (Str × V)} {f : Str} {v : V} {A : Around} {E : Value → Shared → Prop}

theorem getattr_ok {b : Bool} {Q : Value → Shared → Prop} (I : Inv X pins σ H s) (e : H a = some (.ins C dx fs)) (c : Cls X.K C) (n : NoAttr X.K C f) (l : fs.lookup f = some v)
    (h : ∀ u s', Inv X pins σ H s' → RelV v u → Q u s') : wpAny (model X.prog X.w) A (getAttr (.ref a) f b) Q E s := by
  obtain ⟨mA, O, r, _, _, _⟩ := ins_get I.hok e
  obtain ⟨u, hu, ru⟩ := RelO.some_of (v := v) (o := mA f) (by rw [← l]; exact r f)
  exact get_map I.kIn O (c.get f) c.hd n hu (handed_of ru) (h u _ (I.tok _) ru)

theorem getmeth_ok {m : Str} {g : Addr} {pl : Sem Bool} {Q : Value × List Value → Shared → Prop} (I : Inv X pins σ H s) (e : H a = some (.ins C dx fs)) (c : Cls X.K C) (k : Meth X.K C m g) (l : fs.lookup m = none)
    (h : Q (.ref g, [.ref a]) s) : wpAny (model X.prog X.w) A (getMethod (.ref a) m pl) Q E s := by
  obtain ⟨mA, O, r, _, _, _⟩ := ins_get I.hok e
  have hn : mA m = none := RelO.none_of (by rw [← l]; exact r m)
  exact get_meth I.kIn O (c.get m) k.at_ k.fn hn h

theorem setattr_ok {y : V} {u : Value} {Q : Unit → Shared → Prop} (I : Inv X pins σ H s) (e : H a = some (.ins C dx fs)) (c : Cls X.K C) (n : NoAttr X.K C f) (hl : fs.length < 1000) (ry : RelV y u)
    (h : ∀ s', Inv X pins σ (upd H a (.ins C dx (putF f y fs))) s' → Q () s') : wpAny (model X.prog X.w) A (setAttr (.ref a) f u) Q E s := by
  obtain ⟨mA, O, r, wi, _, ho⟩ := ins_get I.hok e
  have hz : (fs.map (·.1)).length ≤ sizeLine := by rw [List.length_map, sizeLine_eq]; omega
  refine set_map I.kIn O c.sa c.po n.taker c.hd wi hz fun h' O' sb => h _ ?_
  have hd : ∃ o, h'.get? dx = some o := let ⟨o, _, _, e', _⟩ := O'.ns; ⟨o, e'⟩
  refine I.write (x := a) (e := dx) (by rw [e]; exact True.intro) (.inr ho) (fun b q hb z => (sb.2 b hb).trans z) hd ?_
  refine ⟨by rw [upd_ne O.ne]; exact ho, ?_, O.ne, O'.obj, _, O'.ns, fun g => ?_, fun g hg => ?_⟩
  · have := length_putF f y fs; omega
  · show RelO ((putF f y fs).lookup g) (if g = f then some u else mA g)
    rw [lookup_putF]
    by_cases q : g = f
    · rw [if_pos q, if_pos q]; exact ry
    · rw [if_neg q, if_neg q]; exact r g
  · by_cases q : g = f
    · rw [q]; exact (keys_putF f y fs).1
    · refine (keys_putF f y fs).2 g (wi g fun z => hg ?_)
      show (if g = f then some u else mA g) = none
      rw [if_neg q]; exact z

/-- a new instance, tracked, without attributes -/
theorem Inv.made (I : Inv X pins σ H s) : Inv X pins σ (upd (upd H s.heap.objs.size (.own (s.heap.objs.size + 1))) (s.heap.objs.size + 1) (.ins C s.heap.objs.size []))
    { s with heap := (s.heap.push PySem.W.emptyDict).push (PySem.W.instObj C s.heap.objs.size) } := by
  have e1 : (s.heap.push PySem.W.emptyDict).get? s.heap.objs.size = some PySem.W.emptyDict := Heap.get?_push_size s.heap rfl
  have e2 : ((s.heap.push PySem.W.emptyDict).push (PySem.W.instObj C s.heap.objs.size)).get? (s.heap.objs.size + 1) = some (PySem.W.instObj C s.heap.objs.size) := by
    have := Heap.get?_push_size (s.heap.push PySem.W.emptyDict) (o := PySem.W.instObj C s.heap.objs.size) rfl
    rwa [Heap.size_push] at this
  have e3 : (s.heap.push PySem.W.emptyDict).Ns s.heap.objs.size (fun _ => none) := ⟨PySem.W.emptyDict, #[], _, e1, rfl, (fun e he => absurd he (by simp)), fun _ => rfl⟩
  have I1 := I.laid (a := s.heap.objs.size) (o := .own (s.heap.objs.size + 1)) (h' := s.heap.push PySem.W.emptyDict) (t' := s.toks) (fun b u q => Heap.get?_push_of_some _ q) (Nat.le_refl _) ⟨_, e1⟩
  refine I1.laid (a := s.heap.objs.size + 1) (o := .ins C s.heap.objs.size []) (t' := s.toks) (fun b u q => Heap.get?_push_of_some _ q) (Nat.le_of_eq (Heap.size_push _ _)) ?_
  have ne : s.heap.objs.size ≠ s.heap.objs.size + 1 := Nat.ne_of_lt (Nat.lt_succ_self _)
  refine ⟨by rw [upd_ne ne, upd_same], Nat.zero_le _, ne, e2, fun _ => none, (Heap.Ns1.of_empty e3).at fun o q => Heap.get?_push_of_some _ q, fun _ => True.intro, fun y hy => absurd rfl hy⟩

/-- e.f where nothing but the object is asked: through attributeBase (super) and the last hold -/
theorem attr_of {prog : Program} {w : World} {env : Env} {e : Expr} {f : Str} {pos : Pos} {s : Shared} {Q : Value → Shared → Prop} (hb : attributeBase e f env (eval e env) = eval e env)
    (h : wpAny (model prog w) A (eval e env) (fun o s₁ => wpAny (model prog w) A (getAttr o f true) Q E s₁) E s) : wpAny (model prog w) A (eval (.Attribute e f pos) env) Q E s :=
  Attribute_any_ h (by rw [arm_eval_Attribute, hb])
end

/-! ### readings and rules -/
/-- e.f, an attribute of the instance -/
def tFld (K : PySem.W.Frag) (ta : TE) (f : Str) : TE := fun σ H Q => ta σ H fun x H1 => ∃ a C dx fs v, x = .ref a ∧ H1 a = some (.ins C dx fs) ∧ Cls K C ∧ NoAttr K C f ∧ fs.lookup f = some v ∧ Q v H1
/-- e.f, a constant of the class -/
def tCon (K : PySem.W.Frag) (ta : TE) (f : Str) : TE := fun σ H Q => ta σ H fun x H1 => ∃ a C dx fs v u, x = .ref a ∧ H1 a = some (.ins C dx fs) ∧ Cls K C ∧ Con K C f v u ∧ fs.lookup f = none ∧ Q v H1
/-- e.f = value -/
def sFld (K : PySem.W.Frag) (ta tv : TE) (f : Str) : TS := fun D σ H => tv σ H fun y H1 => ta σ H1 fun x H2 => ∃ a C dx fs, x = .ref a ∧ H2 a = some (.ins C dx fs) ∧ Cls K C ∧ NoAttr K C f ∧ fs.length < 1000 ∧
  D.nx σ (upd H2 a (.ins C dx (putF f y fs)))
/-- an augmented operator on two values -/
def InOp (X : Cx) (op : Operator) (rd : V → V → Hp → VK → Prop) : Prop :=
  ∀ (pins : List (Addr × Obj)) (s : Shared) (σ : St) (H : Hp) (x y : V) (u v : Value) (Q : VK), Inv X pins σ H s → RelV x u → RelV y v → rd x y H Q → wpAny (model X.prog X.w) X.A (inplaceOp op u v) (EP X pins σ Q) X.xe s
/-- e.f op= value -/
def sFldAug (K : PySem.W.Frag) (ta tv : TE) (rd : V → V → Hp → VK → Prop) (f : Str) : TS := fun D σ H => ta σ H fun x H1 => ∃ a C dx fs v, x = .ref a ∧ H1 a = some (.ins C dx fs) ∧ Cls K C ∧ NoAttr K C f ∧ fs.lookup f = some v ∧
  tv σ H1 fun y H2 => rd v y H2 fun z H3 => ∃ dx' fs', H3 a = some (.ins C dx' fs') ∧ fs'.length < 1000 ∧ D.nx σ (upd H3 a (.ins C dx' (putF f z fs')))

section
variable {X : Cx} {o e value : Expr} {f : Str} {pos pos' tpos : Pos} {ta tv : TE}
theorem pe_fld (he : PE X e ta) (hb : attributeBase e f X.env (eval e X.env) = eval e X.env) : PE X (.Attribute e f pos) (tFld X.K ta f) := by
  intro pins s σ H Q I h
  refine attr_of hb (thn (he pins s σ H _ I h) fun u s1 ⟨x, H1, I1, rx, a, C, dx, fs, v, ex, ea, c, n, l, q⟩ => ?_)
  subst ex
  obtain rfl : u = Value.ref a := rx
  exact getattr_ok I1 ea c n l fun u' s2 I2 ru => ⟨v, H1, I2, ru, q⟩
theorem ps_fld (ha : PE X o ta) (hv : PE X value tv) (hs : swapsWith value (some (.Attribute o f pos')) pos.line X.env = pure false) : PS X (.Assign [.Attribute o f pos'] value pos) (sFld X.K ta tv f) := by
  intro pins s σ H D I h
  refine plainObj_wpAny_Assign_Attribute (thn (hv pins s σ H _ I h) fun u s1 ⟨y, H1, I1, ry, q⟩ => thn (ha pins s1 σ H1 _ I1 q) fun ov s2 ⟨x, H2, I2, rx, a, C, dx, fs, ex, ea, c, n, l, q2⟩ => ?_) hs
  subst ex
  obtain rfl : ov = Value.ref a := rx
  exact setattr_ok I2 ea c n l ry fun s3 I3 => ⟨σ, _, I3, q2⟩
def rAdd : V → V → Hp → VK → Prop := fun x y H Q => ∃ i j, x = .int i ∧ y = .int j ∧ Q (.int (i + j)) H
def rSub : V → V → Hp → VK → Prop := fun x y H Q => ∃ i j, x = .int i ∧ y = .int j ∧ Q (.int (i - j)) H
end

/-! ### isinstance -/
section
variable {X : Cx} {pins : List (Addr × Obj)} {σ : St} {H : Hp} {s : Shared} {A : Around} {E : Value → Shared → Prop} {Q : Value → Shared → Prop} {c : Value} {b : Bool}
/-- the type of a value, as the fragment's deciders take it; for an instance its class -/
inductive TyOf (K : PySem.W.Frag) (H : Hp) : V → Value → Prop where
  | non : TyOf K H .non (.type "NoneType")
  | bl (x : Bool) : TyOf K H (.bl x) (.type "bool")
  | int (i : Int) : TyOf K H (.int i) (.type "int")
  | str (x : Str) : TyOf K H (.str x) (.type "str")
  | flt (x : UInt64) : TyOf K H (.flt x) (.type "float")
  | lst {a : Addr} {xs : List V} (e : H a = some (.lst xs)) : TyOf K H (.ref a) (.type "list")
  | frz {a : Addr} {o : Obj} {xs : List V} (e : H a = some (.frz o (.lst xs))) : TyOf K H (.ref a) (.type "list")
  | tup {a : Addr} {xs : List V} (e : H a = some (.tup xs)) : TyOf K H (.ref a) (.type "tuple")
  | dK {a : Addr} {kvs : List (Key × V)} (e : H a = some (.dK kvs)) : TyOf K H (.ref a) (.type "dict")
  | dT {a : Addr} {kvs : List (List Key × V)} (e : H a = some (.dT kvs)) : TyOf K H (.ref a) (.type "dict")
  | ins {a C dx : Addr} {fs : List (Str × V)} (e : H a = some (.ins C dx fs)) (cl : Cls K C) (ha : PySem.W.findIn K (.ref C) "__class__" = some (some (.builtin "object.__class__")))
      (hn : PySem.W.specialIn K (.builtin "object.__class__") "__get__" = some (some (.builtin "getset_descriptor.__get__"))) (htk : PySem.W.takesIn K (.builtin "object.__class__") = some true)
      (hm : PySem.W.mroIn K C (.type "object") = some true) : TyOf K H (.ref a) (.ref C)
/-- isinstance(x, c) for one class c, a built-in or an own one: kitOne's answer -/
theorem isinst_ok {x : V} {u t : Value} (I : Inv X pins σ H s) (rx : RelV x u) (ty : TyOf X.K H x t) (e : PySem.W.kitOne X.K t c = some b) (h : ∀ tk, Q (.bool b) { s with toks := tk }) :
    wpAny (model X.prog X.w) A (call (.builtin "isinstance") [u, c]) Q E s := by
  cases ty with
  | non => cases (show u = Value.none from rx); exact PySem.W.kia_one PySem.W.kitx_none I.kIn True.intro e (fun z => nomatch z) h
  | bl y => cases (show u = Value.bool y from rx); exact PySem.W.kia_one PySem.W.kitx_bool I.kIn True.intro e (fun z => nomatch z) h
  | int i => obtain ⟨t, q⟩ := (show ∃ t, u = Value.int i t from rx); cases q; exact PySem.W.kia_one PySem.W.kitx_int I.kIn True.intro e (fun z => nomatch z) h
  | str y => obtain ⟨t, q⟩ := (show ∃ t, u = Value.str y t from rx); cases q; exact PySem.W.kia_one PySem.W.kitx_str I.kIn True.intro e (fun z => nomatch z) h
  | flt y => obtain ⟨t, q⟩ := (show ∃ t, u = Value.float y t from rx); cases q; exact PySem.W.kia_one PySem.W.kitx_float I.kIn True.intro e (fun z => nomatch z) h
  | @lst a xs ea =>
    cases (show u = Value.ref a from rx)
    obtain ⟨_, _, n, _, h1⟩ := (show ObjOk X.prog X.w H s.heap a (.lst xs) from I.hok a _ ea)
    exact PySem.W.kia_one PySem.W.kitx_list I.kIn ⟨_, h1, rfl⟩ e (fun z => nomatch z) h
  | @frz a ob xs ea =>
    cases (show u = Value.ref a from rx)
    obtain ⟨_, _, _, n, _, h1⟩ := (show ObjOk X.prog X.w H s.heap a (.frz ob (.lst xs)) from I.hok a _ ea)
    exact PySem.W.kia_one PySem.W.kitx_list I.kIn ⟨_, h1, rfl⟩ e (fun z => nomatch z) h
  | @tup a xs ea =>
    cases (show u = Value.ref a from rx)
    obtain ⟨_, _, _, p⟩ := (show ObjOk X.prog X.w H s.heap a (.tup xs) from I.hok a _ ea)
    obtain ⟨o, h1, h2, _⟩ := p
    exact PySem.W.kia_one PySem.W.kitx_tuple I.kIn ⟨o, h1, h2⟩ e (fun z => nomatch z) h
  | @dK a kvs ea =>
    cases (show u = Value.ref a from rx)
    obtain ⟨_, _, vs, _, p⟩ := (show ObjOk X.prog X.w H s.heap a (.dK kvs) from I.hok a _ ea)
    obtain ⟨o, es, ep, h1, h2, _⟩ := p
    exact PySem.W.kia_one PySem.W.kitx_dict I.kIn ⟨o, h1, h2.1⟩ e (fun z => nomatch z) h
  | @dT a kvs ea =>
    cases (show u = Value.ref a from rx)
    obtain ⟨_, _, xs, _, o, es, ep, h1, h2, _⟩ := (show ObjOk X.prog X.w H s.heap a (.dT kvs) from I.hok a _ ea)
    exact PySem.W.kia_one PySem.W.kitx_dict I.kIn ⟨o, h1, h2.1⟩ e (fun z => nomatch z) h
  | @ins a C dx fs ea cl ha hn htk hm =>
    cases (show u = Value.ref a from rx)
    obtain ⟨mA, O, _⟩ := ins_get I.hok ea
    obtain ⟨od, J, _⟩ := O.look
    exact PySem.W.kia_one (PySem.W.kitx_own (cl.get _) cl.hd ha hn htk hm) I.kIn J e (fun z => nomatch z) h
end
end L2

namespace L2
open PySem PySem.Spec PyProof.Rows

/-! ### room -/
structure Room (k : Nat) (A : Around) : Prop where
  hd : A.handled = none
  dp : A.depth + 3 * k + 5 < recursionLimit
  un : A.units + 16 * k + 200 < cLine
theorem Room.mono {j k : Nat} {A : Around} (r : Room k A) (h : j ≤ k) : Room j A := ⟨r.hd, by have := r.dp; omega, by have := r.un; omega⟩
theorem Room.deeper {k : Nat} {A : Around} (r : Room (k + 1) A) (env : Env) : Room k (A.deeper env) :=
  ⟨r.hd, by have := r.dp; show A.depth + 1 + 3 * k + 5 < _; omega, by have := r.un; show A.units + 3 + 16 * k + 200 < _; omega⟩
theorem make_depth {A : Around} {C : Addr} {us : List Value} {kw : List (Str × Value)} : (A.under (.builtin "type.__call__" ⟨.ref C :: us, kw⟩)).depth = A.depth + 1 := by
  first | rfl | simp [Around.under, Code.weight, Code.isCreation, Code.isGuard, Code.isCaller, Code.frames, Code.isFrame, guardIds]
theorem make_units {A : Around} {C : Addr} {us : List Value} {kw : List (Str × Value)} : (A.under (.builtin "type.__call__" ⟨.ref C :: us, kw⟩)).units = A.units + 1 := by
  first | rfl | simp [Around.under, Code.cUnits, Code.frames, Code.isFrame]
theorem Room.make {k : Nat} {A : Around} (r : Room (k + 1) A) (C : Addr) (us : List Value) (kw : List (Str × Value)) : Room k (A.under (.builtin "type.__call__" ⟨.ref C :: us, kw⟩)) :=
  ⟨r.hd, by have := r.dp; rw [make_depth]; omega, by have := r.un; rw [make_units]; omega⟩
theorem Room.depth {k : Nat} {A : Around} (r : Room k A) : A.depth < recursionLimit := by have := r.dp; omega
theorem Room.units {k : Nat} {A : Around} (r : Room k A) : A.units + 64 < cLine := by have := r.un; omega
/-! ### argument lists and displays -/
def tNil : TA := fun _ H Q => Q [] H
def tCons (ta : TE) (tr : TA) : TA := fun σ H Q => ta σ H fun x H1 => tr σ H1 fun xs H2 => Q (x :: xs) H2
section
variable {X : Cx} {e : Expr} {es : List Expr} {te : TE} {t : TA} {pos : Pos}
theorem pa_nil : PA X [] tNil := fun _ _ _ _ H Q I h => Calls.spliced_nil ⟨[], H, I, .nil, h⟩
theorem pa_cons (ha : PE X e te) (hr : PA X es t) (hs : starEach (e :: es) X.env = (false, eval e X.env) :: starEach es X.env := by rfl) : PA X (e :: es) (tCons te t) := by
  intro pos pins s σ H Q I h
  rw [hs]
  show wpAny _ _ (spliced ((false, eval e X.env) :: backTo pos (starEach es X.env))) _ _ s
  refine Calls.spliced_cons (thn (ha pins s σ H _ I h) fun u s1 ⟨x, H1, I1, r1, q1⟩ => ?_)
  exact thn (hr pos pins s1 σ H1 _ I1 q1) fun us s2 ⟨xs, H2, I2, r2, q2⟩ => ⟨x :: xs, H2, I2, .cons r1 r2, q2⟩

/-- a tuple, a list of written items -/
def tTup (t : TA) : TE := fun σ H Q => t σ H fun xs H1 => xs.length ≤ sizeLine ∧ ∀ p, H1 p = none → Q (.ref p) (upd H1 p (.tup xs))
def tLst (t : TA) : TE := fun σ H Q => t σ H fun xs H1 => xs.length ≤ sizeLine ∧ ∀ p, H1 p = none → Q (.ref p) (upd H1 p (.lst xs))
theorem pe_lst (h : PA X es t) : PE X (.List es pos) (tLst t) := by
  intro pins s σ H Q I hq
  refine wpAny_List_spliced (thn (h pos pins s σ H _ I hq) fun us s1 ⟨xs, H1, I1, r, z, q⟩ => ⟨by rw [← r.length]; exact z, ?_⟩)
  have hf : H1 s1.heap.objs.size = none := I1.hok.fresh (Nat.le_refl _)
  refine ⟨.ref s1.heap.objs.size, upd H1 s1.heap.objs.size (.lst xs), I1.laid (t' := s1.toks) (fun b u e => Heap.get?_push_of_some _ e) (Nat.le_refl _) ?_, rfl, q _ hf⟩
  exact ⟨z, us, 0, r, Heap.get?_push_size _ rfl⟩
end

/-! ### what a def promises -/
/-- a def's promise: the bound arguments in the parameters' order, the heap, the wanted end, the wanted exception -/
abbrev Sp := List V → Hp → VK → XK → Prop
/-- how an exception lies behind a call (file 08 gives it): the callers' frames, abstract heap and state ahead of the call, the wish, the exception, the state -/
abbrev CXT := List Env → Hp → Shared → XK → Value → Shared → Prop

/-- the state at a call -/
structure Env0 (P : Program) (w : World) (K : PySem.W.Frag) (mg : Str → Option Value) (base : Heap) (A : Around) (outer : List Env) (s : Shared) (H : Hp) : Prop where
  frames : A.frames = some outer
  mod : Mod K mg base
  bs : ∀ b o, base.get? b = some o → s.heap.get? b = some o ∧ H b = none
  bsz : base.objs.size ≤ s.heap.objs.size
  funs : s.heap.FunFrames base outer
  frf : ∀ b ∈ frs outer, H b = none
  hok : HOk P w H s.heap
  bare : AllBare s.gens
/-- a call's end -/
def CE (outer : List Env) (P : Program) (w : World) (H : Hp) (s : Shared) (Q : VK) (u : Value) (s' : Shared) : Prop :=
  ∃ v H', s'.os = s.os ∧ AllBare s'.gens ∧ Un (frs outer) [] H H' s.heap s'.heap ∧ HOk P w H' s'.heap ∧ RelV v u ∧ Q v H'
def CR (CX : CXT) (outer : List Env) (P : Program) (w : World) (H : Hp) (s : Shared) (Q : VK) (E : XK) (r : Result) (s' : Shared) : Prop :=
  match r with
  | .ok (.ret u) => CE outer P w H s Q u s'
  | .ok _ => False
  | .error e => CX outer H s E e s'
structure FnOk (P : Program) (w : World) (K : PySem.W.Frag) (mg : Str → Option Value) (base : Heap) (CX : CXT) (k : Nat) (f : Addr) (fd : FuncData) (ps : List Str) (sp : Sp) : Prop where
  len : ∀ vs H Q E, sp vs H Q E → vs.length = ps.length
  run : ∀ (A : Around) (outer : List Env) (s : Shared) (H : Hp) (args : Args) (us : List Value) (vs : List V) (Q : VK) (E : XK), Room k A → Env0 P w K mg base A outer s H → BindsTo s fd args (ps.zip us) → Vals vs us → sp vs H Q E →
    codeAny (model P w) A (.call (.ref f) args) (CR CX outer P w H s Q E) s
theorem FnOk.mono {P : Program} {w : World} {K : PySem.W.Frag} {mg : Str → Option Value} {base : Heap} {CX : CXT} {j k : Nat} {f : Addr} {fd : FuncData} {ps : List Str} {sp : Sp} (F : FnOk P w K mg base CX j f fd ps sp) (h : j ≤ k) :
    FnOk P w K mg base CX k f fd ps sp := ⟨F.len, fun A outer s H args us vs Q E hr => F.run A outer s H args us vs Q E (hr.mono h)⟩
/-- a weaker promise -/
theorem FnOk.imp {P : Program} {w : World} {K : PySem.W.Frag} {mg : Str → Option Value} {base : Heap} {CX : CXT} {k : Nat} {f : Addr} {fd : FuncData} {ps : List Str} {sp sp' : Sp} (F : FnOk P w K mg base CX k f fd ps sp)
    (h : ∀ vs H Q E, sp' vs H Q E → sp vs H Q E) : FnOk P w K mg base CX k f fd ps sp' :=
  ⟨fun vs H Q E q => F.len vs H Q E (h _ _ _ _ q), fun A outer s H args us vs Q E hr he hb hv hs => F.run A outer s H args us vs Q E hr he hb hv (h _ _ _ _ hs)⟩

theorem Env0.make {P : Program} {w : World} {K : PySem.W.Frag} {mg : Str → Option Value} {base : Heap} {A : Around} {outer : List Env} {s : Shared} {H : Hp} (e : Env0 P w K mg base A outer s H) (C : Addr) (us : List Value) (kw : List (Str × Value)) :
    Env0 P w K mg base (A.under (.builtin "type.__call__" ⟨.ref C :: us, kw⟩)) outer s H := ⟨by first | exact e.frames | (simpa [Around.under, Code.envs, Code.isFrame, pushEnvs] using e.frames), e.mod, e.bs, e.bsz, e.funs, e.frf, e.hok, e.bare⟩
section
variable {X : Cx} {pins : List (Addr × Obj)} {σ : St} {H : Hp} {s s' : Shared}
/-- from a body: what a callee wants -/
theorem Inv.env0 (I : Inv X pins σ H s) : Env0 X.prog X.w X.K X.mg X.base X.A X.stack s H :=
  ⟨I.ok.frames, I.ok.mod, I.bs, Nat.le_trans I.ok.bsz I.sz, I.stack, I.stkFree, I.hok, I.bare⟩
/-- behind a call -/
theorem Inv.after {Q : VK} {u : Value} (I : Inv X pins σ H s) (h : CE X.stack X.prog X.w H s Q u s') : EP X pins σ Q u s' := by
  obtain ⟨v, H', os, bare, un, hok, r, q⟩ := h
  obtain ⟨hh, g, d, t, os'⟩ := s'
  obtain rfl : os' = s.os := os
  exact ⟨v, H', I.call (h' := hh) (g' := g) (d' := d) (t' := t) (ch := []) un hok bare (fun b z => absurd z (by simp)), r, q⟩
end

/-! ### calls -/
/-- f(..): the written arguments, then the defaults dvs; E: what is wanted of an exception -/
def tCall (sp : Sp) (dvs : List V) (E : XK) (t : TA) : TE := fun σ H Q => t σ H fun vs H1 => sp (vs ++ dvs) H1 Q E
/-- o.m(..) of an instance of the class at C -/
def tMeth (C : Addr) (m : Str) (sp : Sp) (dvs : List V) (E : XK) (ta : TE) (t : TA) : TE := fun σ H Q => ta σ H fun x H1 => ∃ a dx fs, x = .ref a ∧ H1 a = some (.ins C dx fs) ∧ fs.lookup m = none ∧
  t σ H1 fun vs H2 => sp (x :: (vs ++ dvs)) H2 Q E
/-- C(..): a new instance and its dict, then __init__ -/
def tMake (C : Addr) (sp : Sp) (dvs : List V) (E : XK) (t : TA) : TE := fun σ H Q => t σ H fun vs H1 => ∀ x dx, H1 x = none → H1 dx = none → dx ≠ x →
  sp (.ref x :: (vs ++ dvs)) (upd (upd H1 dx (.own x)) x (.ins C dx [])) (fun v H2 => v = .non ∧ Q (.ref x) H2) E

/-- how the parameters are bound: us the positional arguments, kw the keywords' values by name, ds the defaults that fill up -/
def Binds (K : PySem.W.Frag) (fd : FuncData) (ps : List Str) (ds : List Value) : Prop :=
  ∀ (s : Shared) (us : List Value), K.In s.heap → (us ++ ds).length = ps.length → BindsTo s fd ⟨us, []⟩ (ps.zip (us ++ ds))
/-- every parameter is given -/
theorem Binds.all {K : PySem.W.Frag} {fd : FuncData} {ps : List Str} (h : ∀ us : List Value, us.length = ps.length → bindArgs fd ⟨us, []⟩ = pure (ps.zip us)) : Binds K fd ps [] := fun s us _ hl => by
  rw [List.append_nil] at hl ⊢
  exact .of_eq (h us hl)

/-- an exception of a callee reaches what this body wants of exceptions -/
def Passes (CX : CXT) (X : Cx) (E : XK) : Prop := ∀ (pins : List (Addr × Obj)) (σ : St) (H : Hp) (s : Shared) (e : Value) (s' : Shared), Inv X pins σ H s → CX X.stack H s E e s' → X.xe e s'

section
variable {X : Cx} {CX : CXT} {k : Nat} {f C : Addr} {fd : FuncData} {ps : List Str} {sp : Sp} {dvs : List V} {ds : List Value} {E : XK} {x m : Str} {p pos apos : Pos} {e o : Expr} {es : List Expr} {ta : TE} {t : TA}

/-- the callee runs -/
theorem run_fn {pins : List (Addr × Obj)} {σ : St} {H : Hp} {s : Shared} {Q : VK} {us : List Value} {vs : List V} (F : FnOk X.prog X.w X.K X.mg X.base CX k f fd ps sp) (hr : Room k X.A) (hb : Binds X.K fd ps ds) (hd : Vals dvs ds) (hx : Passes CX X E)
    (I : Inv X pins σ H s) (r : Vals vs us) (h : sp (vs ++ dvs) H Q E) : wpAny (model X.prog X.w) X.A (call (.ref f) us) (EP X pins σ Q) X.xe s := by
  have r2 : Vals (vs ++ dvs) (us ++ ds) := r.append hd
  have hl : (us ++ ds).length = ps.length := by rw [← r2.length]; exact F.len _ _ _ _ h
  refine wpAny_call (codeAny_mono (F.run X.A X.stack s H ⟨us, []⟩ (us ++ ds) (vs ++ dvs) Q E hr I.env0 (hb s us I.kIn hl) r2 h) fun r s' hq => ?_)
  cases r with
  | error e => exact hx pins σ H s e s' I hq
  | ok fl =>
    cases fl with
    | ret u => exact I.after hq
    | next => exact False.elim hq
    | brk => exact False.elim hq
    | cont => exact False.elim hq

theorem pe_call (F : FnOk X.prog X.w X.K X.mg X.base CX k f fd ps sp) (hr : Room k X.A) (hg : Gl X x) (hm : X.mg x = some (.ref f)) (hk : PySem.W.keepIn X.K (.ref f) = true) (hb : Binds X.K fd ps ds) (hd : Vals dvs ds) (hx : Passes CX X E)
    (ha : PA X (e :: es) t) (hdb : (x == ("__debug__" : Str)) = false := by decide) (he : starEach (e :: es) X.env = (false, eval e X.env) :: starEach es X.env := by rfl) (hpl : (backTo pos (starEach es X.env)).any (·.1) = false := by rfl) :
    PE X (.Call (.Name x p) (e :: es) [] pos) (tCall sp dvs E t) := by
  intro pins s σ H Q I h
  refine wpAny_Call_Name_kw (ld_glob I hg hm ?_ hdb)
  refine PySem.W.callWith_K (h₀ := X.base) I.ok.mod.kin hk (thn (ha pos pins s σ H _ I h) fun us s1 ⟨vs, H1, I1, r, q⟩ => ⟨I1.kIn, ?_⟩) he hpl
  exact run_fn F hr hb hd hx I1 r q
/-- what a class must have to be made -/
structure Mk (K : PySem.W.Frag) (C f : Addr) : Prop where
  makes : PySem.W.makesIn K C = true
  init : PySem.W.findIn K (.ref C) "__init__" = some (some (.ref f))
  fn : PySem.W.isFn K (.ref f) = true
  kp : PySem.W.keepIn K (.ref C) = true

theorem run_make {pins : List (Addr × Obj)} {σ : St} {H : Hp} {s : Shared} {Q : VK} {us : List Value} {vs : List V} (M : Mk X.K C f) (F : FnOk X.prog X.w X.K X.mg X.base CX k f fd ps sp) (hr : Room (k + 1) X.A) (hb : Binds X.K fd ps ds) (hd : Vals dvs ds)
    (hx : Passes CX X E) (I : Inv X pins σ H s) (r : Vals vs us)
    (h : ∀ x dx, H x = none → H dx = none → dx ≠ x → sp (.ref x :: (vs ++ dvs)) (upd (upd H dx (.own x)) x (.ins C dx [])) (fun v H2 => v = .non ∧ Q (.ref x) H2) E) :
    wpAny (model X.prog X.w) X.A (call (.ref C) us) (EP X pins σ Q) X.xe s := by
  have hq := h (s.heap.objs.size + 1) s.heap.objs.size (I.hok.fresh (Nat.le_succ _)) (I.hok.fresh (Nat.le_refl _)) (Nat.ne_of_lt (Nat.lt_succ_self _))
  have I2 := Inv.made (C := C) I
  have r2 : Vals (V.ref (s.heap.objs.size + 1) :: (vs ++ dvs)) (Value.ref (s.heap.objs.size + 1) :: (us ++ ds)) := .cons rfl (r.append hd)
  have hl : (Value.ref (s.heap.objs.size + 1) :: us ++ ds).length = ps.length := by
    have e := r2.length
    rw [F.len _ _ _ _ hq] at e
    exact e.symm
  refine wpAny_call (make_map (f := f) I.kIn M.makes M.init (beq_iff_eq.mp M.fn) (codeAny_mono (F.run _ X.stack _ _ ⟨Value.ref (s.heap.objs.size + 1) :: us, []⟩ (Value.ref (s.heap.objs.size + 1) :: (us ++ ds)) _ _ E (hr.make C us [])
    (I2.env0.make C us []) (hb _ (Value.ref (s.heap.objs.size + 1) :: us) I2.kIn hl) r2 hq) fun r s' hq' => ?_))
  cases r with
  | error e => exact hx pins σ _ _ e s' I2 hq'
  | ok fl =>
    cases fl with
    | ret u =>
      obtain ⟨v, H', I3, rv, ev, q3⟩ := I2.after hq'
      subst ev
      exact ⟨rv, ⟨V.ref (s.heap.objs.size + 1), H', I3, rfl, q3⟩⟩
    | next => exact False.elim hq'
    | brk => exact False.elim hq'
    | cont => exact False.elim hq'
theorem pe_make (M : Mk X.K C f) (F : FnOk X.prog X.w X.K X.mg X.base CX k f fd ps sp) (hr : Room (k + 1) X.A) (hg : Gl X x) (hm : X.mg x = some (.ref C)) (hb : Binds X.K fd ps ds) (hd : Vals dvs ds) (hx : Passes CX X E)
    (ha : PA X (e :: es) t) (hdb : (x == ("__debug__" : Str)) = false := by decide) (he : starEach (e :: es) X.env = (false, eval e X.env) :: starEach es X.env := by rfl) (hpl : (backTo pos (starEach es X.env)).any (·.1) = false := by rfl) :
    PE X (.Call (.Name x p) (e :: es) [] pos) (tMake C sp dvs E t) := by
  intro pins s σ H Q I h
  refine wpAny_Call_Name_kw (ld_glob I hg hm ?_ hdb)
  refine PySem.W.callWith_K (h₀ := X.base) I.ok.mod.kin M.kp (thn (ha pos pins s σ H _ I h) fun us s1 ⟨vs, H1, I1, r, q⟩ => ⟨I1.kIn, ?_⟩) he hpl
  exact run_make M F hr hb hd hx I1 r q
end

/-! ### keywords -/
/-- the values of the keywords, from the left -/
def PK (X : Cx) (kws : List Keyword) (t : TA) : Prop :=
  ∀ (pos : Pos) (pins : List (Addr × Obj)) (s : Shared) (σ : St) (H : Hp) (Q : List V → Hp → Prop), Inv X pins σ H s → t σ H Q → wpAny (model X.prog X.w) X.A (evalAll ((backToKw pos (keywordEach kws X.env)).map (·.2))) (AP X pins σ Q) X.xe s
section
variable {X : Cx} {CX : CXT} {k : Nat} {f C : Addr} {fd : FuncData} {ps ks : List Str} {sp : Sp} {E : XK} {x m : Str} {p pos apos kpos : Pos} {e o : Expr} {es : List Expr} {kws : List Keyword} {te ta : TE} {t tk : TA} {nm : Option Str}
/-- how a call with keywords binds: g puts the positional values us and the keywords' values ws (names ks) in the parameters' order, defaults among them -/
structure KBinds (K : PySem.W.Frag) (fd : FuncData) (ps ks : List Str) (g : List Value → List Value → List Value) (gV : List V → List V → List V) : Prop where
  to : ∀ (s : Shared) (us ws : List Value), K.In s.heap → (g us ws).length = ps.length → BindsTo s fd ⟨us, ks.zip ws⟩ (ps.zip (g us ws))
  rel : ∀ {vs : List V} {us : List Value} {zs : List V} {ws : List Value}, Vals vs us → Vals zs ws → Vals (gV vs zs) (g us ws)
def tCallK (sp : Sp) (gV : List V → List V → List V) (E : XK) (t tk : TA) : TE := fun σ H Q => t σ H fun vs H1 => tk σ H1 fun zs H2 => sp (gV vs zs) H2 Q E
variable {g : List Value → List Value → List Value} {gV : List V → List V → List V}
end

/-! ### a def's body keeps its promise -/
/-- names: the parameters first -/
structure FnScope (N P : List Str) (sc : Scope) : Prop where
  kind : sc.kind = .function
  co : sc.isCoroutine = false
  gen : sc.isGenerator = false
  nd : N.Nodup
  pre : N.take P.length = P
  par : ∀ x ∈ P, sc.names.lookup x = some .local ∨ sc.names.lookup x = some .cell
  nofree : ∀ y ∈ sc.names, y.2 ≠ .free

theorem bindL_out {kindOf : Str → Option NameKind} {x : Str} : ∀ {binds : List (Str × Value)} {m : Str → Option Value}, (∀ v, (x, v) ∉ binds) → bindL kindOf binds m x = m x
  | [], _, _ => rfl
  | (n, v) :: r, m, h => by
    unfold bindL
    rw [bindL_out fun w hw => h w (List.mem_cons_of_mem _ hw)]
    split
    · have : x ≠ n := by rintro rfl; exact h v List.mem_cons_self
      simp [this]
    · rfl
theorem bindC_out {kindOf : Str → Option NameKind} {x : Str} : ∀ {binds : List (Str × Value)} {m : Str → Option Value}, (∀ v, (x, v) ∉ binds) → bindC kindOf binds m x = m x
  | [], _, _ => rfl
  | (n, v) :: r, m, h => by
    unfold bindC
    rw [bindC_out fun w hw => h w (List.mem_cons_of_mem _ hw)]
    split
    · rfl
    · have : x ≠ n := by rintro rfl; exact h v List.mem_cons_self
      simp [this]
theorem bindL_get {kindOf : Str → Option NameKind} {x : Str} {v : Value} : ∀ {P : List Str} {vs : List Value} {i : Nat} {m : Str → Option Value}, P.Nodup → P[i]? = some x → vs[i]? = some v → kindOf x = some .local →
    bindL kindOf (P.zip vs) m x = some v
  | [], _, _, _, _, h, _, _ => by simp at h
  | _ :: _, [], _, _, _, _, h, _ => by simp at h
  | p :: P, w :: vs, 0, m, nd, h1, h2, hk => by
    simp at h1 h2; subst h1; subst h2
    show bindL kindOf ((p, w) :: P.zip vs) m p = _
    unfold bindL
    rw [bindL_out fun v hv => (List.nodup_cons.mp nd).1 (List.of_mem_zip hv).1, if_pos hk]
    simp
  | p :: P, w :: vs, i + 1, m, nd, h1, h2, hk => by
    show bindL kindOf ((p, w) :: P.zip vs) m x = _
    unfold bindL
    exact bindL_get (i := i) (List.nodup_cons.mp nd).2 (by simpa using h1) (by simpa using h2) hk
theorem bindC_get {kindOf : Str → Option NameKind} {x : Str} {v : Value} : ∀ {P : List Str} {vs : List Value} {i : Nat} {m : Str → Option Value}, P.Nodup → P[i]? = some x → vs[i]? = some v → kindOf x ≠ some .local →
    bindC kindOf (P.zip vs) m x = some v
  | [], _, _, _, _, h, _, _ => by simp at h
  | _ :: _, [], _, _, _, _, h, _ => by simp at h
  | p :: P, w :: vs, 0, m, nd, h1, h2, hk => by
    simp at h1 h2; subst h1; subst h2
    show bindC kindOf ((p, w) :: P.zip vs) m p = _
    unfold bindC
    rw [bindC_out fun v hv => (List.nodup_cons.mp nd).1 (List.of_mem_zip hv).1, if_neg hk]
    simp
  | p :: P, w :: vs, i + 1, m, nd, h1, h2, hk => by
    show bindC kindOf ((p, w) :: P.zip vs) m x = _
    unfold bindC
    exact bindC_get (i := i) (List.nodup_cons.mp nd).2 (by simpa using h1) (by simpa using h2) hk

/-- the names' values at the entry -/
def start (N : List Str) (vs : List V) : St := vs.map some ++ List.replicate (N.length - vs.length) none

/-- the context of a def's body, at its entry; an exception leaves the frame, then lies as CX says -/
def cxOf (CX : CXT) (P : Program) (w : World) (K : PySem.W.Frag) (mg : Str → Option Value) (base : Heap) (N : List Str) (qual : Str) (scope : Scope) (f : Addr) (cd : Value) (A : Around) (outer : List Env) (s : Shared) (H : Hp) (E : XK) : Cx where
  prog := P
  w := w
  K := K
  mg := mg
  base := base
  A := A.deeper (envOfC qual scope s.heap.objs.size f cd)
  N := N
  s₀ := s
  H₀ := H
  env := envOfC qual scope s.heap.objs.size f cd
  outer := outer
  stack := envOfC qual scope s.heap.objs.size f cd :: outer
  ex := []
  calm := true
  fn := fun _ => true
  pn := []
  xe := fun e s' => wpAny (model P w) (A.deeper (envOfC qual scope s.heap.objs.size f cd)) (leaving (envOfC qual scope s.heap.objs.size f cd) e) (fun _ s'' => CX outer H s E e s'') (fun e' s'' => CX outer H s E e' s'') s'

theorem cell_has {sc : Scope} {n : Nat} {x : Str} (h : sc.names.lookup x = some .cell) : ∃ c, (cellsFrom n sc.names []).lookup x = some c := by
  have q := PySem.W.cellsFrom_some sc.names n [] (.inl h)
  exact Option.isSome_iff_exists.mp q

theorem inv_start {CX : CXT} {P : Program} {w : World} {K : PySem.W.Frag} {mg : Str → Option Value} {base : Heap} {N ps : List Str} {qual : Str} {scope : Scope} {f : Addr} {cd : Value} {A : Around} {outer : List Env} {s s1 : Shared} {H : Hp} {E : XK} {us : List Value} {vs : List V}
    (S : FnScope N ps scope) (hd : A.handled = none) (e0 : Env0 P w K mg base A outer s H) (hl : vs.length = ps.length) (r : Vals vs us)
    (x : InCallC s s.heap.objs.size (bindL (envOfC qual scope s.heap.objs.size f cd).kindOf (ps.zip us) fun _ => none) (cellsFrom (s.heap.objs.size + 1) scope.names []) (bindC (envOfC qual scope s.heap.objs.size f cd).kindOf (ps.zip us) fun _ => none) s1) :
    Inv (cxOf CX P w K mg base N qual scope f cd A outer s H E) [] (start N vs) H s1 := by
  have hpl : ps.length ≤ N.length := by have := congrArg List.length S.pre; rw [List.length_take] at this; omega
  obtain ⟨h1, tk, rfl, hk⟩ := x.done
  have noA : ∀ b : Addr, b ∉ (cxOf CX P w K mg base N qual scope f cd A outer s H E).ex := fun b z => absurd (show b ∈ ([] : List Addr) from z) (by simp)
  refine ⟨⟨e0.mod, S.kind, rfl, rfl, Nat.le_refl _, fun y z c h1 h2 => ?_, fun y hy => ?_, fun y c _ h => ?_, fun _ => hd, Around.frames_deeper e0.frames, .inr ⟨rfl, rfl⟩, fun b z => absurd z (noA b), e0.bs, e0.bsz, fun b _ _ => noA b, fun b z => absurd z (noA b), e0.funs, e0.frf⟩,
    rfl, e0.bare, Un.kept hk, ⟨_, x.toInCall.ns, fun i y v h1 h2 h3 => ?_⟩, fun y c h => ⟨_, x.cell y c h⟩, e0.hok.fresh (Nat.le_refl _), fun y c h => ?_, fun p hp => absurd (show p ∈ ([] : List (Addr × Obj)) from hp) (by simp), e0.hok.kept hk, ?_⟩
  · exact name_of_addr x.apart (PySem.mem_of_lookup h1) (PySem.mem_of_lookup h2)
  · have hy : scope.names.lookup y = some .cell ∨ scope.names.lookup y = some .free := hy
    rcases hy with hy | hy
    · exact cell_has hy
    · exact absurd rfl (S.nofree _ (PySem.mem_of_lookup hy))
  · exact Nat.le_of_lt (x.above y c (PySem.mem_of_lookup h))
  · have hi : i < vs.length := by
      unfold start at h2
      by_cases hi : i < vs.length
      · exact hi
      · rw [List.getElem?_append_right (by simpa using hi)] at h2
        rw [List.getElem?_replicate] at h2
        split at h2 <;> cases h2
    have ha : vs[i]? = some v := by
      unfold start at h2
      rw [List.getElem?_append_left (by simpa using hi), List.getElem?_map] at h2
      cases e : vs[i]? with
      | none => rw [e] at h2; cases h2
      | some a => rw [e] at h2; cases h2; rfl
    obtain ⟨u, hu, rv⟩ := r.get ha
    have hp : ps[i]? = some y := by
      rw [← S.pre, List.getElem?_take_of_lt (by omega)]; exact h1
    have ndP : ps.Nodup := by rw [← S.pre]; exact S.nd.sublist (List.take_sublist _ _)
    refine ⟨u, rv, ?_⟩
    rcases S.par y (List.mem_of_getElem? hp) with k | k
    · exact .inl ⟨k, bindL_get ndP hp hu k⟩
    · obtain ⟨c, e⟩ := cell_has (n := s.heap.objs.size + 1) k
      refine .inr ⟨.inl k, c, e, ?_⟩
      have q := x.cell y c e
      rw [bindC_get ndP hp hu (by show scope.names.lookup y ≠ _; rw [k]; decide)] at q
      exact q
  · exact e0.hok.fresh (Nat.le_of_lt (x.above y c (PySem.mem_of_lookup h)))
  · unfold start
    show _ = N.length
    rw [List.length_append, List.length_map, List.length_replicate]
    omega

/-- THE RULE: a def (or a method) of the text, by its body. The body's reading t is chosen for each entry; it is run at the parameters' values -/
theorem fn_of {CX : CXT} {P : Program} {w : World} {K : PySem.W.Frag} {mg : Str → Option Value} {base : Heap} {k : Nat} {f : Addr} {name qual : Str} {params : Arguments} {body : List Stmt} {scope : Scope} {dV kV doc pm cdv ct oc : Value} {an od : Option Addr}
    {osl : Array (Option Value)} {N ps : List Str} {sp : Sp} (lk : K.lookup f = some ⟨oc, od, .func (PySem.W.fnOf name qual params body scope dV kV doc pm an cdv ct), osl⟩) (hcd : PySem.W.codeIn K cdv qual = true) (S : FnScope N ps scope)
    (len : ∀ vs H Q E, sp vs H Q E → vs.length = ps.length)
    (hbody : ∀ (A : Around) (outer : List Env) (s : Shared) (H : Hp) (vs : List V) (Q : VK) (E : XK), Room k (A.deeper (envOfC qual scope s.heap.objs.size f cdv)) → sp vs H Q E →
      ∃ t, PSs (cxOf CX P w K mg base N qual scope f cdv A outer s H E) body t ∧ t { nx := fun _ H' => Q .non H', rt := Q } (start N vs) H) :
    FnOk P w K mg base CX (k + 1) f (PySem.W.fnOf name qual params body scope dV kV doc pm an cdv ct) ps sp := by
  refine ⟨len, fun A outer s H args us vs Q E hr e0 hb r hsp => ?_⟩
  have hl := len _ _ _ _ hsp
  have KX : K.In s.heap := e0.mod.kin.keeps fun b o e => (e0.bs b o e).1
  have lim : s.heap.NoLimit := e0.mod.nolimit.keeps fun b o e => (e0.bs b o e).1
  have hkind : ∀ y ∈ ps.zip us, scope.names.lookup y.1 = some .local ∨ (scope.names.lookup y.1 = some .cell ∧ ((cellsFrom (s.heap.objs.size + 1) scope.names []).lookup y.1).isSome = true) := fun ⟨n, v⟩ hy => by
    rcases S.par n (List.of_mem_zip hy).1 with q | q
    · exact .inl q
    · exact .inr ⟨q, PySem.W.cellsFrom_some _ _ _ (.inl q)⟩
  refine codeAny_call_function hr.depth (KX _ _ lk) rfl S.co S.gen rfl (PySem.W.codeRec_of KX hcd) (hb _ _ _ _ ?_)
  refine wpAny_newFunctionEnv_cells S.kind hkind fun env he s1 x => ?_
  subst he
  refine ⟨lim.keeps x.toInCall.keep, codeAny_func ?_⟩
  obtain ⟨t, ht, hq⟩ := hbody A outer s H vs Q E (hr.deeper _) hsp
  have I : Inv (cxOf CX P w K mg base N qual scope f cdv A outer s H E) [] (start N vs) H s1 := inv_start S hr.hd e0 hl r x
  refine wpAny_mono (ht [] s1 (start N vs) H _ I hq) (fun fl s' hs => ?_) fun e s' hs => hs
  have fin : ∀ {σ' : St} {H' : Hp} {v : V} {u : Value}, Inv (cxOf CX P w K mg base N qual scope f cdv A outer s H E) [] σ' H' s' → RelV v u → Q v H' → CE outer P w H s Q u s' :=
    fun {σ' H' v u} J rv q => ⟨v, H', J.os, J.bare, J.base, J.hok, rv, q⟩
  cases fl with
  | ret u =>
    obtain ⟨v, σ', H', J, rv, q⟩ := hs
    exact fin J rv q
  | next =>
    obtain ⟨σ', H', J, q⟩ := hs
    exact fin (v := V.non) (u := Value.none) J rfl q
  | brk =>
    obtain ⟨_, _, _, q⟩ := hs
    exact False.elim q
  | cont =>
    obtain ⟨_, _, _, q⟩ := hs
    exact False.elim q
end L2

namespace L2
open PySem PySem.Spec PyProof.Rows
section
variable {X : Cx} {x : Str} {p pos : Pos} {e : Expr} {es : List Expr} {t : TA} {id T : String} {r : List V → Hp → VK → Prop}

def tCB (r : List V → Hp → VK → Prop) (t : TA) : TE := fun σ H Q => t σ H fun vs H1 => r vs H1 Q
/-- f(e, ..), f a built-in function -/
theorem pe_callB (hc : CallR X (.builtin id) r) (hg : Gl X x) (hm : X.mg x = none) (hv : bootBuiltins x = some (.builtin id)) (ha : PA X (e :: es) t) (hn : x ≠ "__name__" := by decide) (hdb : (x == ("__debug__" : Str)) = false := by decide)
    (he : starEach (e :: es) X.env = (false, eval e X.env) :: starEach es X.env := by rfl) (hpl : (backTo pos (starEach es X.env)).any (·.1) = false := by rfl) : PE X (.Call (.Name x p) (e :: es) [] pos) (tCB r t) := by
  intro pins s σ H Q I h
  refine wpAny_Call_Name_kw (ld_blt I hg hm hv ?_ hn hdb)
  exact PyProof.Rows.callWith_builtin1 (thn (ha pos pins s σ H _ I h) fun us s1 ⟨vs, H1, I1, r1, q1⟩ => hc pins s1 σ H1 vs us Q I1 r1 q1) he hpl
/-- T(e, ..), T a built-in type -/
theorem pe_callTy (hc : CallR X (.type T) r) (hg : Gl X x) (hm : X.mg x = none) (hv : bootBuiltins x = some (.type T)) (ha : PA X (e :: es) t) (hn : x ≠ "__name__" := by decide) (hdb : (x == ("__debug__" : Str)) = false := by decide)
    (he : starEach (e :: es) X.env = (false, eval e X.env) :: starEach es X.env := by rfl) (hpl : (backTo pos (starEach es X.env)).any (·.1) = false := by rfl) : PE X (.Call (.Name x p) (e :: es) [] pos) (tCB r t) := by
  intro pins s σ H Q I h
  refine wpAny_Call_Name_kw (ld_blt I hg hm hv ?_ hn hdb)
  exact PyProof.Rows.callWith_type1 (thn (ha pos pins s σ H _ I h) fun us s1 ⟨vs, H1, I1, r1, q1⟩ => hc pins s1 σ H1 vs us Q I1 r1 q1) he hpl
end
end L2

namespace HT
open PySem PyProof.Rows

/-- t < u of tuples of ints -/
def lexLt : List Int → List Int → Bool
  | [], [] => false
  | [], _ :: _ => true
  | _ :: _, [] => false
  | x :: xs, y :: ys => if x = y then lexLt xs ys else decide (x < y)
section
open PySem.SeqAt
open PySem.AutoSeq1 (wpAny_loadPart')
open PySem.MeetsSeq PySem.MeetsSeq2 PySem.MeetsSeq3

end

section
variable {prog : Program} {w : World} {A : Around} {E : Value → Shared → Prop} {s : Shared}

/-! ### t[a:b], not the whole -/
/-- a slice's bound as a place among n (d where it is left out) -/
def sIx (n d : Nat) : Option Int → Nat
  | none => d
  | some v => if v < 0 then (v + (n : Int)).toNat else min v.toNat n
theorem sIx_none (n d : Nat) : sIx n d none = d := rfl
end
end HT

namespace L2
open PySem PySem.Spec PyProof.Rows

/-! ### the parts of a slice -/
abbrev TO := St → Hp → (Option Int → Hp → Prop) → Prop
/-- a slice's part (left out, or an int) -/
def PO (X : Cx) (e : Option Expr) (t : TO) : Prop :=
  ∀ (pins : List (Addr × Obj)) (s : Shared) (σ : St) (H : Hp) (Q : Option Int → Hp → Prop), Inv X pins σ H s → t σ H Q →
    wpAny (model X.prog X.w) X.A (evalPart e X.env) (fun u s' => ∃ o H', Inv X pins σ H' s' ∧ IsPart u o ∧ Q o H') X.xe s
def tNoPart : TO := fun _ H Q => Q none H
def tPart (t : TE) : TO := fun σ H Q => t σ H fun x H1 => ∃ i, x = .int i ∧ Q (some i) H1

section
variable {X : Cx} {e : Expr} {te : TE} {lo hi : Option Expr} {tl th : TO} {pos p2 : Pos}

theorem po_none : PO X none tNoPart := by
  intro pins s σ H Q I h
  rw [evalPart_none]
  exact wpAny_pure ⟨none, H, I, .none, h⟩
theorem po_some (h : PE X e te) : PO X (some e) (tPart te) := by
  intro pins s σ H Q I hw
  rw [evalPart_some]
  refine thn (h pins s σ H _ I hw) fun u s1 ⟨x, H1, I1, r1, q1⟩ => ?_
  obtain ⟨i, rfl, q⟩ := q1
  obtain ⟨t, rfl⟩ := r1
  exact ⟨some i, H1, I1, .int i t, q⟩

/-- what a slice of a value is, by values: the slice object stands at sl -/
def SlR (X : Cx) (r : V → Option Int → Option Int → Hp → VK → Prop) : Prop :=
  ∀ (pins : List (Addr × Obj)) (s : Shared) (σ : St) (H : Hp) (x : V) (v vl vu : Value) (lo hi : Option Int) (sl : Addr) (Q : VK), Inv X pins σ H s → RelV x v → s.heap.IsSliceOf sl vl vu .none → IsPart vl lo → IsPart vu hi → r x lo hi H Q →
    ∃ T id, typeLookup (.type T) "__getitem__" = pure (some (.builtin id)) ∧ s.TypeIs v T ∧ wpAny (model X.prog X.w) X.A (getItem v (.ref sl)) (EP X pins σ Q) X.xe s
theorem SlR.or {r r' : V → Option Int → Option Int → Hp → VK → Prop} (h : SlR X r) (h' : SlR X r') : SlR X (fun x lo hi H Q => r x lo hi H Q ∨ r' x lo hi H Q) := by
  intro pins s σ H x v vl vu lo hi sl Q I rx hs pl pu q
  rcases q with q | q
  · exact h pins s σ H x v vl vu lo hi sl Q I rx hs pl pu q
  · exact h' pins s σ H x v vl vu lo hi sl Q I rx hs pl pu q
def tSl (r : V → Option Int → Option Int → Hp → VK → Prop) (te : TE) (tl th : TO) : TE := fun σ H Q => te σ H fun x H1 => tl σ H1 fun l H2 => th σ H2 fun u H3 => r x l u H3 Q
/-- a[lo:hi], any a -/
theorem pe_slice {r : V → Option Int → Option Int → Hp → VK → Prop} (hr : SlR X r) (he : PE X e te) (hl : PO X lo tl) (hu : PO X hi th) : PE X (.Subscript e (.Slice lo hi none p2) pos) (tSl r te tl th) := by
  intro pins s σ H Q I h
  refine Subscript_ (thn (he pins s σ H _ I h) fun v s1 ⟨x, H1, I1, r1, q1⟩ => ?_)
  refine wpAny_Slice (thn (hl pins s1 σ H1 _ I1 q1) fun vl s2 ⟨l, H2, I2, pl, q2⟩ => thn (hu pins s2 σ H2 _ I2 q2) fun vu s3 ⟨u, H3, I3, pu, q3⟩ => ?_)
  rw [evalPart_none]
  refine wpAny_pure ?_
  have I4 : Inv X pins σ H3 { s3 with heap := s3.heap.push { cls := .type "slice", data := .fields #[vl, vu, .none] } } := I3.kept (t' := s3.toks) fun b ob q => Heap.get?_push_of_some _ q
  obtain ⟨T, id, hT, ht, hg⟩ := hr pins { s3 with heap := s3.heap.push { cls := .type "slice", data := .fields #[vl, vu, .none] } } σ H3 x v vl vu l u s3.heap.objs.size Q I4 r1 (Heap.IsSliceOf.new ..) pl pu q3
  show wpAny (model X.prog X.w) X.A (subscriptTail e (.Slice lo hi none p2) v (.ref s3.heap.objs.size)) (EP X pins σ Q) X.xe { s3 with heap := s3.heap.push { cls := .type "slice", data := .fields #[vl, vu, .none] } }
  exact tail_any (ops := [.ref s3.heap.objs.size, v]) ht hT hg (by with_unfolding_all rfl)

/-- the items of xs[lo:hi] -/
def cutV (xs : List V) (lo hi : Option Int) : List V := (xs.drop (HT.sIx xs.length 0 lo)).take (HT.sIx xs.length xs.length hi - HT.sIx xs.length 0 lo)
theorem cutV_length (xs : List V) (lo hi : Option Int) : (cutV xs lo hi).length ≤ xs.length := by
  unfold cutV
  rw [List.length_take, List.length_drop]
  omega
/-- t[lo:hi], not the whole of it (the whole would be t itself) -/
def rSlT (K : PySem.W.Frag) : V → Option Int → Option Int → Hp → VK → Prop := fun x lo hi H Q => ∃ a xs, x = .ref a ∧ SqT K H a xs ∧
  ¬ (HT.sIx xs.length 0 lo = 0 ∧ HT.sIx xs.length xs.length hi = xs.length) ∧ ∀ p, H p = none → Q (.ref p) (upd H p (.tup (cutV xs lo hi)))
/-! ### t < u, t + u -/
def rLtT (K : PySem.W.Frag) : R2 := fun x y H Q => ∃ a b ns ms, x = .ref a ∧ y = .ref b ∧ SqT K H a (ns.map V.int) ∧ SqT K H b (ms.map V.int) ∧ Q (.bl (HT.lexLt ns ms)) H
/-- t + u, t not empty: u empty gives t itself -/
def rCatT (K : PySem.W.Frag) : R2 := fun x y H Q => ∃ a b xs ys, x = .ref a ∧ y = .ref b ∧ SqT K H a xs ∧ SqT K H b ys ∧ xs ≠ [] ∧ xs.length + ys.length ≤ sizeLine ∧
  (ys = [] → Q (.ref a) H) ∧ (ys ≠ [] → ∀ p, H p = none → Q (.ref p) (upd H p (.tup (xs ++ ys))))
end
end L2

namespace L2
open PySem PySem.Spec PyProof.Rows

/-! ### places -/
/-- the place that an index of any sign means -/
def ixN (n : Nat) (i : Int) : Option Nat := if 0 ≤ i then (if i < n then some i.toNat else none) else if -(n : Int) ≤ i then some (i + n).toNat else none
def atI {α : Type} (xs : List α) (i : Int) : Option α := (ixN xs.length i).bind fun j => xs[j]?
theorem ixN_seq {n : Nat} {i : Int} {j : Nat} (h : ixN n i = some j) : seqIndex? i n = some j ∧ j < n ∧ -(n : Int) ≤ i ∧ i < n := by
  unfold ixN at h
  by_cases h0 : 0 ≤ i
  · rw [if_pos h0] at h
    by_cases h1 : i < n
    · rw [if_pos h1] at h
      have e : i.toNat = j := Option.some.inj h
      exact ⟨by rw [seqIndex_of h0 h1, e], by omega, by omega, h1⟩
    · rw [if_neg h1] at h; cases h
  · rw [if_neg h0] at h
    by_cases h1 : -(n : Int) ≤ i
    · rw [if_pos h1] at h
      have e : (i + n).toNat = j := Option.some.inj h
      exact ⟨by rw [seqIndex_neg (by omega) h1, e], by omega, h1, by omega⟩
    · rw [if_neg h1] at h; cases h
theorem atI_get {α : Type} {xs : List α} {i : Int} {v : α} (h : atI xs i = some v) : ∃ j, seqIndex? i xs.length = some j ∧ xs[j]? = some v ∧ j < xs.length ∧ -(xs.length : Int) ≤ i ∧ i < xs.length := by
  unfold atI at h
  cases e : ixN xs.length i with
  | none => rw [e] at h; cases h
  | some j =>
    rw [e] at h
    obtain ⟨h1, h2, h3, h4⟩ := ixN_seq e
    exact ⟨j, h1, h, h2, h3, h4⟩
theorem atI_nat {α : Type} {xs : List α} {j : Nat} {v : α} (h : xs[j]? = some v) : atI xs (j : Int) = some v := by
  have hj : j < xs.length := (List.getElem?_eq_some_iff.mp h).1
  have e : ixN xs.length (j : Int) = some j := by
    unfold ixN
    rw [if_pos (by omega), if_pos (by omega)]; simp
  unfold atI; rw [e]; exact h
/-! ### what may be subscripted -/
/-- what stands as an index of a plain subscript -/
def PlainIx (b : Expr) : Prop := ∀ o i, subscripted b false o i = operate [o, i] (getItem o i)
/-- a subscript by values -/
def IxR (X : Cx) (r : R2) : Prop :=
  ∀ (value slice : Expr) (pins : List (Addr × Obj)) (s : Shared) (σ : St) (H : Hp) (x y : V) (v u : Value) (Q : VK), Inv X pins σ H s → RelV x v → RelV y u → r x y H Q →
    subscripted slice false v u = operate [v, u] (getItem v u) → wpAny (model X.prog X.w) X.A (subscriptTail value slice v u) (EP X pins σ Q) X.xe s
/-- a call of a builtin's method by values: the receiver, the arguments -/
def MtR (X : Cx) (id : String) (r : V → List V → Hp → VK → Prop) : Prop :=
  ∀ (pins : List (Addr × Obj)) (s : Shared) (σ : St) (H : Hp) (x : V) (xs : List V) (v : Value) (us : List Value) (Q : VK), Inv X pins σ H s → RelV x v → Vals xs us → r x xs H Q →
    wpAny (model X.prog X.w) X.A (call (.builtin id) (v :: us)) (EP X pins σ Q) X.xe s
section
variable {X : Cx} {a b : Expr} {ta tb : TE} {pos : Pos}
theorem IxR.or {r r' : R2} (h : IxR X r) (h' : IxR X r') : IxR X (fun x y H Q => r x y H Q ∨ r' x y H Q) := by
  intro value slice pins s σ H x y v u Q I rx ry q hs
  rcases q with q | q
  · exact h value slice pins s σ H x y v u Q I rx ry q hs
  · exact h' value slice pins s σ H x y v u Q I rx ry q hs
theorem MtR.or {id : String} {r r' : V → List V → Hp → VK → Prop} (h : MtR X id r) (h' : MtR X id r') : MtR X id (fun x xs H Q => r x xs H Q ∨ r' x xs H Q) := by
  intro pins s σ H x xs v us Q I rx rs q
  rcases q with q | q
  · exact h pins s σ H x xs v us Q I rx rs q
  · exact h' pins s σ H x xs v us Q I rx rs q
/-- a[b] -/
theorem pe_ix {r : R2} (hr : IxR X r) (ha : PE X a ta) (hb : PE X b tb) (hs : PlainIx b) : PE X (.Subscript a b pos) (tOp r ta tb) := by
  intro pins s σ H Q I h
  exact Subscript_ (binT ha hb I h fun v u s2 x y H2 I2 rx ry q => hr a b pins s2 σ H2 x y v u Q I2 rx ry q (hs _ _))

def rIxL (K : PySem.W.Frag) : R2 := fun x y H Q => ∃ p xs i v, x = .ref p ∧ y = .int i ∧ SqL K H p xs ∧ atI xs i = some v ∧ Q v H
def rIxT (K : PySem.W.Frag) : R2 := fun x y H Q => ∃ p xs i v, x = .ref p ∧ y = .int i ∧ SqT K H p xs ∧ atI xs i = some v ∧ Q v H
def rIxS : R2 := fun x y H Q => ∃ z i c, x = .str z ∧ y = .int i ∧ z.length ≤ sizeLine ∧ atI z.cps.toList i = some c ∧ Q (.str ⟨#[c]⟩) H
theorem ix_list : IxR X (rIxL X.K) := by
  intro value slice pins s σ H x y v u Q I rx ry h hs
  obtain ⟨p, xs, i, z, rfl, rfl, hq, he, q⟩ := h
  cases rx
  obtain ⟨t, rfl⟩ := ry
  obtain ⟨its, r, pl, hz⟩ := I.list hq
  obtain ⟨j, h1, h2, h3, h4, h5⟩ := atI_get he
  obtain ⟨w, ew, rw'⟩ := r.get h2
  have hl := r.length
  have hn := line63
  have fin : EP X pins σ Q w s := ⟨z, H, I, rw', q⟩
  by_cases h0 : 0 ≤ i
  · have hj : i.toNat = j := by
      rw [seqIndex_of h0 h5] at h1
      exact Option.some.inj h1
    exact item_listR pl.isList h0 (by omega) (by rw [hj]; simpa using ew) fin hs
  · have hj : (i + (its.toArray.size : Int)).toNat = j := by
      rw [seqIndex_neg (by omega) h4] at h1
      rw [List.size_toArray, ← hl]
      exact Option.some.inj h1
    exact subscriptTail_builtinR (x := w) pl.isList.typeIs slot_list_getitem.lookup
      (wpAny_getItem_list_neg (Q := fun r s' => r = w ∧ EP X pins σ Q r s') pl.isList (by omega) (by rw [List.size_toArray] <;> omega) (by omega) (by rw [hj]; simpa using ew) ⟨rfl, fin⟩) hs
/-- list, tuple or str -/
def rIx (K : PySem.W.Frag) : R2 := fun x y H Q => rIxL K x y H Q ∨ rIxT K x y H Q ∨ rIxS x y H Q
/-! ### xs[i] = v, any sign -/
/-- the list's object behind a store -/
theorem mapSeq_set (its : List Value) (n j : Nat) (u : Value) : Obj.mapSeq (·.setIfInBounds j u) { cls := .type "list", data := .seq its.toArray n } = { cls := .type "list", data := .seq (its.set j u).toArray n } := by
  simp [Obj.mapSeq]
theorem Inv.lst {pins : List (Addr × Obj)} {σ : St} {H : Hp} {s : Shared} {p : Addr} {xs : List V} (I : Inv X pins σ H s) (h : H p = some (.lst xs)) :
    ∃ (its : List Value) (n : Nat), Vals xs its ∧ s.heap.get? p = some { cls := .type "list", data := .seq its.toArray n } ∧ xs.length ≤ sizeLine := by
  obtain ⟨z, its, n, r, e⟩ := I.hok p _ h
  exact ⟨its, n, r, e, z⟩
/-- the list at p is written by an update of its object -/
theorem Inv.lstUpd {pins : List (Addr × Obj)} {σ : St} {H : Hp} {s : Shared} {p : Addr} {xs ys : List V} {its its' : List Value} {n n' : Nat} {f : Obj → Obj} (I : Inv X pins σ H s) (h : H p = some (.lst xs))
    (ho : s.heap.get? p = some { cls := .type "list", data := .seq its.toArray n }) (hf : f { cls := .type "list", data := .seq its.toArray n } = { cls := .type "list", data := .seq its'.toArray n' }) (r : Vals ys its') (hz : ys.length ≤ sizeLine) (t : Nat) :
    Inv X pins σ (upd H p (.lst ys)) { s with heap := s.heap.update p f, toks := t } := by
  have e : (s.heap.update p f).get? p = some { cls := .type "list", data := .seq its'.toArray n' } := by
    rw [Heap.get?_update_self f ho (by rw [hf] <;> rfl), hf]
  refine I.write (x := p) (e := p) (by rw [h]; trivial) (.inl rfl) (fun b u hb q => (Heap.get?_update_other _ _ (Ne.symm hb)).trans q) ⟨_, e⟩ ?_
  exact ⟨hz, its', n', r, e⟩
def rSetL : V → V → V → Hp → (Hp → Prop) → Prop := fun o i v H Q => ∃ p xs k j, o = .ref p ∧ i = .int k ∧ H p = some (.lst xs) ∧ ixN xs.length k = some j ∧ Q (upd H p (.lst (xs.set j v)))
theorem set_list : PSet X rSetL := by
  intro pins s σ H o i v ov iv u Q I ro ri rv h
  obtain ⟨p, xs, k, j, rfl, rfl, hp, hj, q⟩ := h
  cases ro
  obtain ⟨t, rfl⟩ := ri
  obtain ⟨its, n, r, ho, hz⟩ := I.lst hp
  obtain ⟨h1, h2, h3, h4⟩ := ixN_seq hj
  have hl := r.length
  have hn := line63
  have I' : Inv X pins σ (upd H p (.lst (xs.set j v))) { s with heap := s.heap.update p (Obj.mapSeq (·.setIfInBounds j u)) } :=
    I.lstUpd hp ho (mapSeq_set its n j u) (r.set rv j) (by rw [List.length_set]; exact hz) s.toks
  by_cases h0 : 0 ≤ k
  · have hk : k.toNat = j := by
      rw [seqIndex_of h0 h4] at h1
      exact Option.some.inj h1
    exact PySem.W.ki_setAt ho h0 (by omega) (by rw [List.size_toArray, ← hl]; exact h4) (by rw [hk]; exact ⟨_, I', q⟩)
  · have hk : (k + (its.toArray.size : Int)).toNat = j := by
      rw [seqIndex_neg (by omega) h3] at h1
      rw [List.size_toArray, ← hl]
      exact Option.some.inj h1
    exact PySem.W.ki_setBack ho (by omega) (by rw [List.size_toArray, ← hl]; exact h3) (by omega) (by rw [hk]; exact ⟨_, I', q⟩)

/-! ### slices -/
theorem slice_bounds (lo hi : Option Int) (n : Nat) : (sliceBounds lo hi none n).1 = ((HT.sIx n 0 lo : Nat) : Int) ∧ (sliceBounds lo hi none n).2.1 = ((HT.sIx n n hi : Nat) : Int) ∧ (sliceBounds lo hi none n).2.2 = 1 := by
  refine ⟨?_, ?_, rfl⟩
  · cases lo with
    | none => simp [sliceBounds, HT.sIx]
    | some i =>
      simp only [sliceBounds, HT.sIx, Option.getD_none, show (1 : Int) > 0 by decide, if_true]
      by_cases h : i < 0
      · simp only [h, if_true] <;> omega
      · simp only [h, if_false] <;> omega
  · cases hi with
    | none => simp [sliceBounds, HT.sIx]
    | some i =>
      simp only [sliceBounds, HT.sIx, Option.getD_none, show (1 : Int) > 0 by decide, if_true]
      by_cases h : i < 0
      · simp only [h, if_true] <;> omega
      · simp only [h, if_false] <;> omega
theorem slicePick_cut (its : List Value) (lo hi : Option Int) : slicePick its.toArray lo hi none = ((its.drop (HT.sIx its.length 0 lo)).take (HT.sIx its.length its.length hi - HT.sIx its.length 0 lo)).toArray := by
  obtain ⟨h1, h2, h3⟩ := slice_bounds lo hi its.toArray.size
  unfold slicePick
  rw [h1, h2, h3]
  simp only [sliceRange_one, pick_run, List.size_toArray] <;> rfl
/-- xs[lo:hi] of a list: a new list -/
def rSlL (K : PySem.W.Frag) : V → Option Int → Option Int → Hp → VK → Prop := fun x lo hi H Q => ∃ a xs, x = .ref a ∧ SqL K H a xs ∧ ∀ p, H p = none → Q (.ref p) (upd H p (.lst (cutV xs lo hi)))
theorem sl_list : SlR X (rSlL X.K) := by
  intro pins s σ H x v vl vu lo hi sl Q I rx hs pl pu h
  obtain ⟨a, xs, rfl, hx, q⟩ := h
  cases rx
  obtain ⟨its, r, ht, hz⟩ := I.list hx
  have hlen := r.length
  refine ⟨"list", _, slot_list_getitem.lookup, ht.isList.typeIs, ?_⟩
  refine wpAny_getItem_list_slice ht.isList hs pl pu .none (by simp) ?_ (by rw [List.size_toArray] <;> omega)
  rw [slicePick_cut, ← hlen]
  refine ⟨.ref s.heap.objs.size, _, I.laid (t' := s.toks) (o := .lst (cutV xs lo hi)) (fun b ob q => Heap.get?_push_of_some _ q) (Nat.le_refl _) ?_, rfl, q _ (I.hok.fresh (Nat.le_refl _))⟩
  exact ⟨Nat.le_trans (cutV_length xs lo hi) hz, _, 0, (r.drop (HT.sIx xs.length 0 lo)).take (HT.sIx xs.length xs.length hi - HT.sIx xs.length 0 lo), Heap.get?_push_size _ rfl⟩

/-! ### in, not in: flat items -/
def flatV : V → Bool
  | .non => true
  | .bl _ => true
  | .int _ => true
  | .str _ => true
  | _ => false
/-- == of flat values -/
def eqV : V → V → Bool
  | .non, .non => true
  | .bl a, .bl b => a == b
  | .bl a, .int b => (if a then 1 else 0) == b
  | .int a, .bl b => a == (if b then 1 else 0)
  | .int a, .int b => a == b
  | .str a, .str b => a == b
  | _, _ => false
/-- the items' answers, read off the values (a value's own answer does not lean on its token) -/
def eqU (x : V) (u : Value) : Bool := match u with
  | .none => eqV .non x
  | .bool b => eqV (.bl b) x
  | .int i _ => eqV (.int i) x
  | .str z _ => eqV (.str z) x
  | _ => false
def inV (x : V) (xs : List V) : Bool := xs.any fun y => eqV y x
/-- x in a list or tuple of flat items -/
def rIn (K : PySem.W.Frag) (neg : Bool) : R2 := fun x y H Q => ∃ p xs, y = .ref p ∧ (SqL K H p xs ∨ SqT K H p xs) ∧ flatV x = true ∧ xs.all flatV = true ∧ Q (.bl (if neg then !inV x xs else inV x xs)) H
/-! ### len, list(x), tuple(x) of any list or tuple that is read -/
theorem call_len_seq : CallR X (.builtin "len") (fun xs H Q => ∃ p ys, xs = [.ref p] ∧ (SqL X.K H p ys ∨ SqT X.K H p ys) ∧ Q (.int ys.length) H) := by
  intro pins s σ H xs us Q I r h
  obtain ⟨p, ys, rfl, hq, q⟩ := h
  obtain ⟨u, rfl, rx⟩ := vals1 r
  cases rx
  have hn := line63
  rcases hq with hq | hq
  · obtain ⟨its, r', pl, hz⟩ := I.list hq
    have hlen := r'.length
    exact Calls.call_len_list pl.isList (by simp only [List.size_toArray] <;> omega) ⟨.int ys.length, H, I.tok _, ⟨s.toks + 1, by rw [List.size_toArray, hlen]⟩, q⟩
  · obtain ⟨its, r', pl, hz⟩ := I.tuple hq
    have hlen := r'.length
    exact len_tuple pl (by simp only [List.size_toArray] <;> omega) ⟨.int ys.length, H, I.tok _, ⟨s.toks + 1, by rw [List.size_toArray, hlen]⟩, q⟩
theorem CallR.or {f : Value} {r r' : List V → Hp → VK → Prop} (h : CallR X f r) (h' : CallR X f r') : CallR X f (fun xs H Q => r xs H Q ∨ r' xs H Q) := by
  intro pins s σ H xs us Q I rs q
  rcases q with q | q
  · exact h pins s σ H xs us Q I rs q
  · exact h' pins s σ H xs us Q I rs q
theorem call_list_of : CallR X (.type "list") (fun xs H Q => ∃ p ys, xs = [.ref p] ∧ (SqL X.K H p ys ∨ SqT X.K H p ys) ∧ ∀ l, H l = none → Q (.ref l) (upd H l (.lst ys))) := by
  intro pins s σ H xs us Q I r h
  obtain ⟨p, ys, rfl, hq, q⟩ := h
  obtain ⟨u, rfl, rx⟩ := vals1 r
  cases rx
  have fin : ∀ (its : List Value), Vals ys its → ys.length ≤ sizeLine → ∀ (h' : Heap) (c' : Nat), (∀ b o', s.heap.get? b = some o' → h'.get? b = some o') →
      h'.get? s.heap.objs.size = some { cls := .type "list", dict := none, data := .seq its.toArray c', slots := #[] } → EP X pins σ Q (.ref s.heap.objs.size) { s with heap := h' } := fun its r' hz h' c' kp e =>
    ⟨.ref s.heap.objs.size, _, I.laid (t' := s.toks) kp (Nat.le_refl _) (show ObjOk X.prog X.w _ h' _ (.lst ys) from ⟨hz, its, c', r', e⟩), rfl, q _ (I.hok.fresh (Nat.le_refl _))⟩
  rcases hq with hq | hq
  · obtain ⟨its, r', pl, hz⟩ := I.list hq
    have hlen := r'.length
    obtain ⟨o, ho, hc, n, hd⟩ := pl.isList
    exact call_list_seq p (.inl rfl) ho hc hd (fun h' c' kp e => fin its r' hz h' c' kp e) (by simp only [List.size_toArray] <;> omega)
  · obtain ⟨its, r', pl, hz⟩ := I.tuple hq
    have hlen := r'.length
    obtain ⟨o, ho, hc, n, hd⟩ := pl
    exact call_list_seq p (.inr rfl) ho hc hd (fun h' c' kp e => fin its r' hz h' c' kp e) (by simp only [List.size_toArray] <;> omega)
/-! ### the call of a builtin's method: o.m(..) -/
/-- the value is of that builtin type -/
def tyV (K : PySem.W.Frag) (T : String) (x : V) (H : Hp) : Prop := match x with
  | .str _ => T = "str"
  | .int _ => T = "int"
  | .ref p => (T = "list" ∧ ∃ xs, SqL K H p xs) ∨ (T = "tuple" ∧ ∃ o, K.lookup p = some o ∧ o.cls = .type "tuple" ∧ o.dict = none) ∨
      (T = "dict" ∧ ((∃ kvs, H p = some (.dK kvs)) ∨ ∃ kvs, H p = some (.dT kvs))) ∨ (T = "set" ∧ ∃ S n, H p = some (.set S n))
  | _ => False
theorem tyV_is {pins : List (Addr × Obj)} {σ : St} {H : Hp} {s : Shared} {T : String} {x : V} {v : Value} (I : Inv X pins σ H s) (r : RelV x v) (ty : tyV X.K T x H) :
    s.TypeIs v T ∧ ∀ a, v = .ref a → ∃ ob, s.heap.get? a = some ob ∧ ob.dict = none := by
  cases x with
  | str z =>
    obtain ⟨t, rfl⟩ := r
    cases (show T = "str" from ty)
    exact ⟨typeIs_str s z t, fun _ e => nomatch e⟩
  | int i =>
    obtain ⟨t, rfl⟩ := r
    cases (show T = "int" from ty)
    exact ⟨typeIs_int s i t, fun _ e => nomatch e⟩
  | ref p =>
    cases r
    rcases ty with ⟨rfl, xs, hq⟩ | ⟨rfl, o, hk, hc, hd⟩ | ⟨rfl, hk⟩ | ⟨rfl, S, n, hk⟩
    · obtain ⟨its, _, pl, _⟩ := I.list hq
      refine ⟨pl.isList.typeIs, fun a e => ?_⟩
      cases e
      obtain ⟨o, n, e, c, hd, _⟩ := pl
      exact ⟨o, e, hd⟩
    · refine ⟨⟨o, I.kIn p o hk, hc⟩, fun a e => ?_⟩
      cases e
      exact ⟨o, I.kIn _ o hk, hd⟩
    · have z : ∃ o, s.heap.get? p = some o ∧ o.ExactDict := by
        rcases hk with ⟨kvs, hk⟩ | ⟨kvs, hk⟩
        · obtain ⟨_, _, _, _, o, _, _, e, ex, _⟩ := I.hok p _ hk
          exact ⟨o, e, ex⟩
        · obtain ⟨_, _, _, _, o, _, _, e, ex, _⟩ := I.hok p _ hk
          exact ⟨o, e, ex⟩
      obtain ⟨o, e, ex⟩ := z
      refine ⟨⟨o, e, ex.1⟩, fun a e2 => ?_⟩
      cases e2
      exact ⟨o, e, ex.2.1⟩
    · obtain ⟨o, _, _, _, e, ex, _⟩ := I.hok p _ hk
      refine ⟨⟨o, e, ex.1⟩, fun a e2 => ?_⟩
      cases e2
      exact ⟨o, e, ex.2.1⟩
  | _ => exact False.elim ty
def tBM0 (K : PySem.W.Frag) (T : String) (r : V → List V → Hp → VK → Prop) (to : TE) : TE := fun σ H Q => to σ H fun x H1 => tyV K T x H1 ∧ r x [] H1 Q
def tBM (K : PySem.W.Frag) (T : String) (r : V → List V → Hp → VK → Prop) (to : TE) (t : TA) : TE := fun σ H Q => to σ H fun x H1 => tyV K T x H1 ∧ t σ H1 fun xs H2 => r x xs H2 Q
variable {o e : Expr} {es : List Expr} {to : TE} {t : TA} {name : Str} {apos cpos : Pos} {T id : String} {r : V → List V → Hp → VK → Prop}
theorem pe_bm (pa : PlainAttrs T) (slot : Slot T name id) (hty : typeOf (.builtin id) = pure (.type "method_descriptor")) (hm : MtR X id r) (ho : PE X o to) (ha : PA X (e :: es) t)
    (hbase : attributeBase o name X.env (eval o X.env) = eval o X.env := by rfl)
    (hfew : ((backTo cpos (starEach (e :: es) X.env)).all (fun x => !x.1) && (backToKw cpos (keywordEach [] X.env)).all (fun x => x.1.isSome)
      && decide ((e :: es).length + ([] : List Keyword).length + (if ([] : List Keyword).isEmpty then 0 else 1) < 30)) = true := by rfl)
    (hline : (apos.endLine == cpos.line) = true := by rfl) (hs : starEach (e :: es) X.env = (false, eval e X.env) :: starEach es X.env := by rfl) (hplain : (backTo cpos (starEach es X.env)).any (·.1) = false := by rfl) :
    PE X (.Call (.Attribute o name apos) (e :: es) [] cpos) (tBM X.K T r to t) := by
  intro pins s σ H Q I h
  refine wpAny_Call_method_late hbase hfew hline rfl (thn (ho pins s σ H _ I h) fun v s1 ⟨x, H1, I1, r1, ty, q1⟩ => ?_)
  obtain ⟨h1, h2⟩ := tyV_is I1 r1 ty
  refine ⟨T, id, pa, slot, hty, h1, h2, ?_⟩
  have hA := ha cpos pins s1 σ H1 _ I1 q1
  rw [hs] at hA ⊢
  refine Calls.callWith_builtin (by show (false || (backTo cpos (starEach es X.env)).any (·.1)) = false; rw [hplain] <;> rfl) (Calls.evalArgs_plain ?_)
  exact thn hA fun us s2 ⟨vs, H2, I2, r2, q2⟩ => hm pins s2 σ H2 x vs v us Q I2 r1 r2 q2
/- xs.append(e), list.index on a module's tuple .. are MtR facts of 06m -/
end
end L2

namespace L2
open PySem PySem.Spec PyProof.Rows

def MtM (X : Cx) (id : String) (r : V → List V → Hp → VK → Prop) : Prop :=
  ∀ (pins : List (Addr × Obj)) (s : Shared) (σ : St) (H : Hp) (x : V) (xs : List V) (v : Value) (us : List Value) (Q : VK), Inv X pins σ H s → RelV x v → Vals xs us → r x xs H Q →
    wpAny (model X.prog X.w) X.A (call (.builtin id) (v :: us)) (EP X pins σ Q) X.xe s

/-! ### lists of values -/
theorem Vals.one : ∀ {x : V} {us : List Value}, Vals [x] us → ∃ u, us = [u] ∧ RelV x u
  | _, _, .cons r .nil => ⟨_, rfl, r⟩
theorem Vals.two : ∀ {x y : V} {us : List Value}, Vals [x, y] us → ∃ u v, us = [u, v] ∧ RelV x u ∧ RelV y v
  | _, _, _, .cons r (.cons q .nil) => ⟨_, _, rfl, r, q⟩
theorem Vals.zero : ∀ {us : List Value}, Vals [] us → us = []
  | _, .nil => rfl
theorem Vals.dropLast {xs : List V} {us : List Value} (h : Vals xs us) : Vals xs.dropLast us.dropLast := by
  induction h with
  | nil => exact .nil
  | cons r t ih =>
    cases t with
    | nil => exact .nil
    | cons q t' => exact .cons r ih
theorem Vals.eraseIdx : ∀ {xs : List V} {us : List Value} (i : Nat), Vals xs us → Vals (xs.eraseIdx i) (us.eraseIdx i)
  | _, _, _, .nil => .nil
  | _, _, 0, .cons _ t => t
  | _, _, i + 1, .cons r t => .cons r (Vals.eraseIdx i t)
theorem Vals.reverse {xs : List V} {us : List Value} (h : Vals xs us) : Vals xs.reverse us.reverse := by
  induction h with
  | nil => exact .nil
  | cons r t ih => rw [List.reverse_cons, List.reverse_cons]; exact Vals.append ih (.cons r .nil)
section
variable {X : Cx} {pins : List (Addr × Obj)} {σ : St} {H : Hp} {s : Shared} {l b : Addr} {xs ys zs : List V}

/-! ### the two steps: a tracked list is rewritten, a new list is laid -/
theorem Inv.lset {its its' : List Value} {n : Nat} {f : Array Value → Array Value} {t' : Nat} (I : Inv X pins σ H s) (hH : H l = some (.lst xs))
    (e : s.heap.get? l = some { cls := .type "list", data := .seq its.toArray n }) (hf : f its.toArray = its'.toArray) (hv : Vals ys its') (hz : ys.length ≤ sizeLine) :
    Inv X pins σ (upd H l (.lst ys)) { s with heap := s.heap.update l (Obj.mapSeq f), toks := t' } := by
  have q := PySem.IsL.update e f
  rw [hf] at q
  refine I.write (x := l) (e := l) (by rw [hH]; exact trivial) (.inl rfl) (fun b' u hb hu => (Heap.get?_update_other s.heap (Obj.mapSeq f) (Ne.symm hb)).trans hu) ⟨_, q⟩ ?_
  exact ⟨hz, its', _, hv, q⟩
theorem Inv.lnew {its : List Value} {t' : Nat} (I : Inv X pins σ H s) (hv : Vals ys its) (hz : ys.length ≤ sizeLine) :
    Inv X pins σ (upd H s.heap.objs.size (.lst ys)) { s with heap := s.heap.push { cls := .type "list", data := .seq its.toArray }, toks := t' } :=
  I.laid (fun _ _ q => Heap.get?_push_of_some _ q) (Nat.le_refl _) ⟨hz, its, 0, hv, Heap.get?_push_size _ rfl⟩
theorem Inv.fresh (I : Inv X pins σ H s) : H s.heap.objs.size = none := I.hok.fresh (Nat.le_refl _)
theorem Inv.lstM (I : Inv X pins σ H s) (hH : H l = some (.lst xs)) : xs.length ≤ sizeLine ∧ ∃ (its : List Value) (n : Nat), Vals xs its ∧ xs.length = its.length ∧ s.heap.get? l = some { cls := .type "list", data := .seq its.toArray n } := by
  obtain ⟨z, its, n, r, e⟩ := I.hok l _ hH
  exact ⟨z, its, n, r, r.length, e⟩

theorem notLongL {n : Nat} (h : n ≤ sizeLine) : Builtin.List.listTooLong n = false := by
  unfold Builtin.List.listTooLong
  exact decide_eq_false (by omega)
end

section
variable {X : Cx}

/-! ### methods -/
def rAppend : V → List V → Hp → VK → Prop := fun x vs H Q => ∃ l xs y, x = .ref l ∧ vs = [y] ∧ H l = some (.lst xs) ∧ xs.length < sizeLine ∧ Q .non (upd H l (.lst (xs ++ [y])))
theorem mt_append : MtM X "list.append" rAppend := by
  intro pins s σ H x vs v us Q I rx rv h
  obtain ⟨l, xs, y, rfl, rfl, hH, hz, q⟩ := h
  cases rx
  obtain ⟨u, rfl, ru⟩ := rv.one
  obtain ⟨z, its, n, r, hl, e⟩ := I.lstM hH
  refine call_meets F.slot_list_append ⟨_, e, rfl⟩ F.entry_list_append (F.args_list_append_2 _ _) (PySem.list_append l its.toArray n u (by rw [List.size_toArray]; omega)) ⟨e, ?_⟩
  refine ⟨.non, _, I.lset (its' := its ++ [u]) hH e (by simp) (r.append (.cons ru .nil)) ?_, rfl, q⟩
  rw [List.length_append, List.length_singleton]
  omega

def rExtend : V → List V → Hp → VK → Prop := fun x vs H Q => ∃ l b xs zs, x = .ref l ∧ vs = [.ref b] ∧ H l = some (.lst xs) ∧ H b = some (.lst zs) ∧ xs.length + zs.length ≤ sizeLine ∧ Q .non (upd H l (.lst (xs ++ zs)))
theorem mt_extend : MtM X "list.extend" rExtend := by
  intro pins s σ H x vs v us Q I rx rv h
  obtain ⟨l, b, xs, zs, rfl, rfl, hH, hB, hz, q⟩ := h
  cases rx
  obtain ⟨u, rfl, ru⟩ := rv.one
  cases ru
  obtain ⟨z, its, n, r, hl, e⟩ := I.lstM hH
  obtain ⟨z2, its2, n2, r2, hl2, e2⟩ := I.lstM hB
  have hsz : its.toArray.size + its2.toArray.size ≤ sizeLine := by rw [List.size_toArray, List.size_toArray]; omega
  have hlong : ¬ (!its.toArray.isEmpty && Builtin.List.listTooLong (its.toArray.size + its2.toArray.size)) = true := by
    rw [notLongL hsz, Bool.and_false]
    exact Bool.false_ne_true
  refine call_meets F.slot_list_extend ⟨_, e, rfl⟩ F.entry_list_extend (F.args_list_extend_2 _ _)
    (AutoSeq1.list_extend_list_list_0 l its.toArray n b its2.toArray n2 hlong (by rw [List.size_toArray]; omega) (by omega)) ⟨e, e2, ?_⟩
  refine ⟨.non, _, I.lset (its' := its ++ its2) hH e (by simp) (r.append r2) ?_, rfl, q⟩
  rw [List.length_append]
  omega

def rPop : V → List V → Hp → VK → Prop := fun x vs H Q => ∃ l xs y, x = .ref l ∧ vs = [] ∧ H l = some (.lst xs) ∧ xs[xs.length - 1]? = some y ∧ Q y (upd H l (.lst xs.dropLast))
def rPopAt : V → List V → Hp → VK → Prop := fun x vs H Q => ∃ l xs i k y, x = .ref l ∧ vs = [.int i] ∧ H l = some (.lst xs) ∧ -(2 ^ 63) ≤ i ∧ i < 2 ^ 63 ∧ seqIndex? i xs.length = some k ∧ xs[k]? = some y ∧ Q y (upd H l (.lst (xs.eraseIdx k)))
def rReverse : V → List V → Hp → VK → Prop := fun x vs H Q => ∃ l xs, x = .ref l ∧ vs = [] ∧ H l = some (.lst xs) ∧ Q .non (upd H l (.lst xs.reverse))
def rClear : V → List V → Hp → VK → Prop := fun x vs H Q => ∃ l xs, x = .ref l ∧ vs = [] ∧ H l = some (.lst xs) ∧ Q .non (upd H l (.lst []))
/-! ### list + list, list += list, list * int -/
def rCat : R2 := fun x y H Q => ∃ l b xs zs, x = .ref l ∧ y = .ref b ∧ H l = some (.lst xs) ∧ H b = some (.lst zs) ∧ xs.length + zs.length ≤ sizeLine ∧ ∀ p, H p = none → Q (.ref p) (upd H p (.lst (xs ++ zs)))
/-- a list times an int (a negative one is nothing) -/
def rRep : R2 := fun x y H Q => ∃ l k xs, x = .ref l ∧ y = .int k ∧ H l = some (.lst xs) ∧ -(2 ^ 63) ≤ k ∧ k < 2 ^ 63 ∧ xs.length * k.toNat ≤ sizeLine ∧
  ∀ p, H p = none → Q (.ref p) (upd H p (.lst (List.replicate k.toNat xs).flatten))
/-! ### del xs[i] -/
end

/-! ### xs[a:b] = ys -/
section
variable {prog : Program} {w : World} {A : Around} {E : Value → Shared → Prop} {s : Shared}
set_option maxRecDepth 100000 in
end

section
variable {X : Cx}
end
end L2

namespace Att
open PySem PySem.W PySem.Calls PyProof.Rows

/-! ### the script -/
theorem ints_of_wellAll {P : Params} {h : Heap} : ∀ (ns : List Int) (vs : List Value), WellAll P h vs (ns.map WData.int) → IntsAre vs ns := by
  intro ns
  induction ns with
  | nil =>
    intro vs w
    rw [List.map_nil] at w
    cases w
    exact .nil
  | cons n ns ih =>
    intro vs w
    rw [List.map_cons] at w
    cases w with
    | cons a b =>
      cases a
      exact .cons _ _ (ih _ b)

theorem script_of {l : OpenLaw} {n : Nat} (hn : l.most = some n) {P : Params} {h : Heap} {args : List WData} {vals : List Value}
    (hpre : l.row.toRowW.claim.pre args = true) (hwl : WellAll P h vals args) :
    ∃ a vs ns, vals = [Value.ref a] ∧ args = [WData.list (ns.map WData.int)] ∧ h.get? a = some { cls := .type "list", data := .seq vs.toArray } ∧ IntsAre vs ns ∧ ns.length ≤ n := by
  have hsh : WShape.hasAll [] args [.list .int] = true := (pre_splitW hpre).1
  have hc : l.pre.holds [] { args := args } = true := (pre_splitW hpre).2
  obtain ⟨d, r, rfl, h1, h2⟩ := hasAllW_cons hsh
  obtain rfl := hasAllW_nil h2
  obtain ⟨xs, rfl, h3⟩ := hasW_list h1
  obtain ⟨ns, rfl⟩ := items_int h3
  have hlen : ns.length ≤ n := by
    unfold OpenLaw.pre at hc
    have h4 : (WTm.not (.lt (.lit (.int (n : Int))) (.len (.arg 0)))).holds [] { args := [.list (ns.map .int)] } = true := by
      have h4 := (holds_andW hc).1
      rw [hn] at h4
      exact h4
    have h5 := condW_of h4 (w_not (w_lt w_lit (w_len_list (w_arg rfl))))
    rw [List.length_map] at h5
    refine Nat.le_of_not_lt fun q => ?_
    have q' : (n : Int) < ((ns.length : Nat) : Int) := by omega
    first
      | (rw [decide_eq_true q'] at h5; exact absurd h5 (by decide))
      | (simp at h5; omega)
  cases hwl with
  | cons w1 w2 =>
    cases w2
    cases w1 with
    | list ho hall => exact ⟨_, _, ns, rfl, rfl, ho, ints_of_wellAll ns _ hall, hlen⟩

theorem post_true (l : OpenLaw) (args : List WData) : l.row.toRowW.claim.post args (.bool true) args = true :=
  postW_of (r := l.row.toRowW) (X := (true == true))
    (show WShape.has [] (.bool true) .bool = true by first | rfl | decide | simp [WShape.has, WShape.arms, WShape.armsAll])
    (show (WTm.eq .res (.lit (.bool true))).value [] { args := args, res := some (.bool true), after := args } = some (.bool (true == true)) from w_eq_bool (w_res rfl) w_lit) rfl

/-! ### the attachment: holds_open's last premise (the goal 'hc' behind k_head) from a wpAny of the law's body -/
/-- the same from a codeAny of the CALL (for a layer whose function contracts speak of calls) -/
theorem attach_call {l : OpenLaw} {n : Nat} {q : Program} {loose : List Str} {XP : (Str → Option Value) → Heap → Prop} {YP : World → Heap → Prop} {d : DefRec}
    (hn : l.most = some n) (hdf : d.params.defaults = [])
    (call : ∀ (w : World) (s₀ s₁ : Shared) (mg mb : Str → Option Value) (fa : Addr) (o : Obj) (pm cd doc : Value) (a : Addr) (vs : List Value) (ns : List Int),
      Ground q loose [] XP w s₀ mg mb s₁.heap → YP w s₁.heap →
      s₁.heap.get? fa = some o → o.data = .func (docDef d.name d.params d.body d.scope pm cd doc) → s₁.heap.CodeRec cd d.name → mg d.name = some (.ref fa) →
      s₁.heap.get? a = some { cls := .type "list", data := .seq vs.toArray } → IntsAre vs ns → ns.length ≤ n → s₁.gens = #[] →
      codeAny (model l.prog w) callerA (.call (.ref fa) ⟨[.ref a], []⟩) (fun r s' => r = .ok (.ret (.bool true)) ∧ OldK s₁.heap s'.heap ∧ s'.os = s₁.os ∧ AllBare s'.gens) s₁) :
    WalkO q loose XP YP l.row.toRowW d [] (fun f vs => PySem.call f vs) := by
  intro w s₀ s₁ mg mb G Y fa o pm cd doc dV kV ho hd hcd hD hmg hg args vals as hpre hlay hrd hwl hlo
  obtain rfl : dV = .none := Dflts.none hD hdf
  obtain rfl : kV = .none := Dflts.noKw hD
  obtain ⟨a, vs, ns, rfl, rfl, hobj, hints, hlen⟩ := script_of hn hpre hwl
  refine enter_call (codeAny_mono (call w s₀ s₁ mg mb fa o pm cd doc a vs ns G Y ho (fd_plain hd) hcd hmg hobj hints hlen hg) fun r s' hq => ?_)
  obtain ⟨rfl, h2, h3, h4⟩ := hq
  exact ⟨.inl ⟨.bool true, .bool true, [], rfl, fun _ => rfl, .bool true, post_true l _, fun _ => ⟨List.Pairwise.nil, fun _ hm => (nomatch hm)⟩⟩, h2, h3, h4⟩

/-! ### rules over ANY heap (no ledger) from facts about the written part K: the library's own take a ledger (News) for what they write -/
section
variable {prog : Program} {w : World} {A : Around} {E : Value → Shared → Prop} {s : Shared} {K : Frag}

/-! the whole heap as the ledger: makes every rule that writes through a ledger a rule over any heap -/
def noObjs (h : Heap) : Heap := { h with objs := #[] }
theorem noObjs_get (h : Heap) (b : Addr) : (noObjs h).get? b = none := by
  cases e : (noObjs h).get? b with
  | none => rfl
  | some o => exact absurd (Heap.lt_size e) (Nat.not_lt_zero _)
def ledger (h : Heap) (L d : Addr) : List (Addr × Obj) := (List.range h.objs.size).filterMap fun a => if a = L ∨ a = d then none else (h.get? a).map fun o => (a, o)
theorem fr_all {h : Heap} {L : Addr} {m : Str → Option Value} (n : h.Ns L m) : Fr (noObjs h) L h m :=
  ⟨n, fun b o e => (by rw [noObjs_get] at e; cases e), Nat.zero_le _⟩
end
end Att

namespace L2
open PySem PySem.Spec PyProof.Rows

theorem vals_ints : ∀ {vs : List Value} {ns : List Int}, IntsAre vs ns → Vals (ns.map V.int) vs
  | _, _, .nil => .nil
  | _, _, .cons n t h => .cons ⟨t, rfl⟩ (vals_ints h)

/-- nothing is tracked but the script, known to the object (or it is an object of the module) -/
def Only (H : Hp) : Prop := ∀ b, H b = none ∨ ∃ o xs, H b = some (.frz o (.lst xs))

/-- THE HEAD: the law's promise, at the heap behind the top. F, the promise of the law's def, may use that base is part of the heap (so K.In base, base.Ns mainGlobals mg stand in Mod) -/
theorem law_call {P : Program} {w : World} {K : PySem.W.Frag} {mg mb : Str → Option Value} {CX : CXT} {k : Nat} {fa a : Addr} {fd : FuncData} {x : Str} {sp : Sp} {s₁ : Shared} {vs : List Value} {ns : List Int}
    (KX : K.In s₁.heap) (hns : s₁.heap.Ns mainGlobals mg) (hb : s₁.heap.Ns builtinsNs mb) (hbb : ∀ x : Str, x ≠ "__name__" → mb x = bootBuiltins x) (hlim : s₁.heap.NoLimit) (hg : s₁.gens = #[])
    (ha : s₁.heap.get? a = some { cls := .type "list", data := .seq vs.toArray }) (hi : IntsAre vs ns) (hl : ns.length ≤ sizeLine) (hr : Room k callerA)
    (F : ∀ base : Heap, K.In base → base.Ns mainGlobals mg → FnOk P w K mg base CX k fa fd [x] sp) (hbind : ∀ (s : Shared) (u : Value), BindsTo s fd ⟨[u], []⟩ [(x, u)])
    (hsp : ∀ H : Hp, Only H → SqL K H a (ns.map V.int) → sp [.ref a] H (fun v _ => v = .bl true) fun _ _ _ => False)
    (hCX : ∀ H e s', CX [] H s₁ (fun _ _ _ => False) e s' → False) :
    codeAny (model P w) callerA (.call (.ref fa) ⟨[.ref a], []⟩) (fun r s' => r = .ok (.ret (.bool true)) ∧ OldK s₁.heap s'.heap ∧ s'.os = s₁.os ∧ AllBare s'.gens) s₁ := by
  have rv := vals_ints hi
  have lenV := hi.length
  -- from an abstract heap in which nothing but the script may be tracked
  have core : ∀ H : Hp, Only H → SqL K H a (ns.map V.int) → HOk P w H s₁.heap → (∀ b, H b ≠ none → b = a) → (H a ≠ none → K.lookup a = none) →
      codeAny (model P w) callerA (.call (.ref fa) ⟨[.ref a], []⟩) (fun r s' => r = .ok (.ret (.bool true)) ∧ OldK s₁.heap s'.heap ∧ s'.os = s₁.os ∧ AllBare s'.gens) s₁ := by
    intro H hO hS hok hA hK
    have base_of : ∀ {b : Addr} {o : Obj}, s₁.heap.get? b = some o → H b = none → (hidT s₁.heap H).get? b = some o := fun e n => hidT_get e n
    have noA : ∀ {b : Addr} {o : Obj} {es : Array DictEntry} {ep : Nat}, s₁.heap.get? b = some o → o.data = .dict es ep → H b = none := fun {b o es ep} e d => by
      cases q : H b with
      | none => rfl
      | some u =>
        have e' : b = a := hA b (by rw [q]; simp)
        subst e'
        rw [ha] at e; cases e
        have d' : Data.seq vs.toArray _ = Data.dict es ep := d
        cases d'
    have nsK : ∀ {b : Addr} {m : Str → Option Value}, s₁.heap.Ns b m → (hidT s₁.heap H).Ns b m := fun {b m} ⟨o, es, ep, e, d, r⟩ => ⟨o, es, ep, base_of e (noA e d), d, r⟩
    have hKb : K.In (hidT s₁.heap H) := fun b o e => base_of (KX b o e) (by
      cases q : H b with
      | none => rfl
      | some u =>
        have e' : b = a := hA b (by rw [q]; simp)
        subst e'
        rw [hK (by rw [q]; simp)] at e; cases e)
    have hM : Mod K mg (hidT s₁.heap H) := ⟨hKb, nsK hns, ⟨mb, nsK hb, hbb⟩, let ⟨mc, h1, h2⟩ := hlim; ⟨mc, nsK h1, h2⟩⟩
    have e0 : Env0 P w K mg (hidT s₁.heap H) callerA [] s₁ H := ⟨rfl, hM, fun b o e => of_hidT e, Nat.le_of_eq (hidT_size _ _), trivial, fun b hb => absurd (show b ∈ ([] : List Addr) from hb) (by simp), hok, .of_eq hg⟩
    refine codeAny_mono ((F _ hKb (nsK hns)).run callerA [] s₁ H ⟨[.ref a], []⟩ [.ref a] [.ref a] _ _ hr e0 (hbind s₁ (.ref a)) (.cons rfl .nil) (hsp H hO hS)) fun r s' h => ?_
    cases r with
    | error e => exact (hCX H e s' h).elim
    | ok fl =>
      cases fl with
      | next => exact False.elim h
      | brk => exact False.elim h
      | cont => exact False.elim h
      | ret u =>
        obtain ⟨v, H', os, bare, un, hok', r', q⟩ := h
        have q' : v = .bl true := q
        subst q'
        obtain rfl : u = Value.bool true := r'
        refine ⟨rfl, OldK.of_keep fun b o e => ?_, os, bare⟩
        cases q : H b with
        | none => exact un.keep b o e q (by intro z; exact absurd (show b ∈ ([] : List Addr) from z) (by simp)) (by simp)
        | some u =>
          rcases hO b with z | ⟨ob, xs, z⟩
          · rw [q] at z; cases z
          · have z2 := un.frzs b ob _ z
            obtain ⟨e1, _⟩ := hok b _ z
            obtain ⟨e2, _⟩ := hok' b _ z2
            rw [e] at e1; cases e1
            exact e2
  cases hk : K.lookup a with
  | some o =>
    -- the script is one of the module's own objects
    have e := KX a o hk
    rw [ha] at e
    cases e
    refine core (fun _ => none) (fun _ => .inl rfl) (.inr ⟨_, vs.toArray, _, hk, rfl, rfl, rfl, by rw [List.size_toArray, lenV]; exact hl, by simpa using rv⟩) (fun b u z => by have z' : (none : Option HO) = some u := z; cases z') (fun b z => absurd rfl z) fun z => absurd rfl z
  | none =>
    refine core (fun b => if b = a then some (.frz { cls := .type "list", data := .seq vs.toArray } (.lst (ns.map V.int))) else none) (fun b => ?_) (.inl (.inr ⟨{ cls := .type "list", data := .seq vs.toArray }, if_pos rfl⟩)) (fun b u z => ?_) (fun b z => ?_) fun _ => hk
    · by_cases hb : b = a
      · exact .inr ⟨_, _, if_pos hb⟩
      · exact .inl (if_neg hb)
    · by_cases hb : b = a
      · have z' := (if_pos hb).symm.trans z
        cases z'
        subst hb
        exact ⟨ha, by rw [List.length_map]; exact hl, vs, _, rv, ha⟩
      · have z' := (if_neg hb).symm.trans z
        cases z'
    · by_cases hb : b = a
      · exact hb
      · exact absurd (if_neg hb) z
end L2

namespace L2
open PySem PySem.Spec PyProof.Rows

abbrev KOf {K : PySem.W.Frag} {h : Heap} (_ : K.In h) : PySem.W.Frag := K

/-- the goal that k_head leaves (case hc), from the law's promise. F gives the function object fd (K's own) once, then the promise over every base -/
theorem walk_of {l : PySem.W.OpenLaw} {n k : Nat} {q : Program} {loose : List Str} {XP : (Str → Option Value) → Heap → Prop} {YP : World → Heap → Prop} {d : DefRec} {K : Params → PySem.W.Frag} {CX : World → CXT} {sp : World → Sp} {x : Str}
    (hn : l.most = some n) (hn2 : n ≤ sizeLine) (hdf : d.params.defaults = []) (hr : Room k callerA)
    (hY : ∀ (w : World) (h : Heap), YP w h → (K w.params).In h)
    (F : ∀ (w : World) (mg : Str → Option Value) (fa : Addr) (h : Heap), (K w.params).In h → h.Ns mainGlobals mg → mg d.name = some (.ref fa) →
      ∃ fd : FuncData, (∀ (s : Shared) (u : Value), BindsTo s fd ⟨[u], []⟩ [(x, u)]) ∧
        ∀ base : Heap, (K w.params).In base → base.Ns mainGlobals mg → FnOk l.prog w (K w.params) mg base (CX w) k fa fd [x] (sp w))
    (hsp : ∀ (w : World) (H : Hp) (a : Addr) (ns : List Int), ns.length ≤ n → Only H → SqL (K w.params) H a (ns.map V.int) → sp w [.ref a] H (fun v _ => v = .bl true) fun _ _ _ => False)
    (hCX : ∀ (w : World) (H : Hp) (s : Shared) (e : Value) (s' : Shared), CX w [] H s (fun _ _ _ => False) e s' → False) :
    PySem.W.WalkO q loose XP YP l.row.toRowW d [] (fun f vs => PySem.call f vs) := by
  refine Att.attach_call hn hdf fun w s₀ s₁ mg mb fa o pm cd doc a vs ns G Y ho hd hcd hmg hobj hints hlen hg => ?_
  have KX := hY w _ Y
  obtain ⟨fd, hb, hF⟩ := F w mg fa _ KX G.T.g hmg
  exact law_call KX G.T.g G.T.b G.T.builtins G.T.nolimit hg hobj hints (Nat.le_trans hlen hn2) hr hF hb (fun H hO hS => hsp w H a ns hlen hO hS) fun H e s' => hCX w H s₁ e s'
end L2

/- THE LAST THEOREM (shape; LID, My.* are yours):
   My.Adr: a structure of the addresses that your layer names (classes, functions); My.Txt K t: a structure (Prop) of the equations over K;
   My.txt_mk : {K} {implicit addresses ..} (e1 : nsIn K mainGlobals "law" = some (some (.ref f))) (e2 : K.lookup f = some ⟨oc, od, .func (fnOf "law" "law" params body scope dV kV doc pm an cdv ct), sl⟩) (e3 : codeIn K cdv "law" = true) .. : ∃ t, My.Txt K t

set_option maxRecDepth 100000 in
set_option maxHeartbeats 0 in
(the tactic k_is has no namespace: write k_is) -/

/-! SHORT WORDS over the layer: a def of the text, its body, what a loop and a test want. -/
namespace L2
open PySem PySem.Spec PyProof.Rows

/-! ### the text by places -/
/-- the j-th statement of a class's body -/
def inClass (s : Stmt) (j : Nat) : Stmt := match s with
  | .ClassDef _ _ _ body _ _ _ _ _ _ _ => body.getD j (.Pass ⟨0, 0, 0, 0⟩)
  | _ => .Pass ⟨0, 0, 0, 0⟩
def defArgs (s : Stmt) : Arguments := match s with
  | .FunctionDef _ a _ _ _ _ _ _ _ _ => a
  | _ => { posonlyargs := [], args := [], vararg := none, kwonlyargs := [], kw_defaults := [], kwarg := none, defaults := [] }
def defBody (s : Stmt) : List Stmt := match s with
  | .FunctionDef _ _ b _ _ _ _ _ _ _ => b
  | _ => []
def defScope (s : Stmt) : Scope := match s with
  | .FunctionDef _ _ _ _ _ _ sc _ _ _ => sc
  | _ => { kind := .function, names := [], isGenerator := false, isCoroutine := false }

/-! ### no exception leaves a def -/
abbrev CX0 : CXT := fun _ _ _ _ _ _ => False
abbrev E0 : XK := fun _ _ _ => False
theorem pass0 {X : Cx} : Passes CX0 X E0 := fun _ _ _ _ _ _ _ h => h.elim

/-! ### a def (or method) of the text as it stands behind the top -/
structure Fun (K : PySem.W.Frag) (x qual : Str) (st : Stmt) (f : Addr) (fd : FuncData) : Prop where
  ex : ∃ (oc : Value) (od : Option Addr) (kV doc pm : Value) (an : Option Addr) (cdv ct : Value) (osl : Array (Option Value)),
    fd = PySem.W.fnOf x qual (defArgs st) (defBody st) (defScope st) .none kV doc pm an cdv ct ∧ K.lookup f = some ⟨oc, od, .func fd, osl⟩ ∧ PySem.W.codeIn K cdv qual = true
  kp : PySem.W.keepIn K (.ref f) = true
section
variable {P : Program} {w : World} {K : PySem.W.Frag} {mg : Str → Option Value} {base : Heap}
/-- THE RULE for a def: its body as a term of rules, and the reading of that term -/
theorem Fun.ok {x qual : Str} {st : Stmt} {f : Addr} {fd : FuncData} {N ps : List Str} {k : Nat} {sp : Sp} (F : Fun K x qual st f fd) (S : FnScope N ps (defScope st)) (len : ∀ vs H Q E, sp vs H Q E → vs.length = ps.length)
    (hbody : ∀ (cdv : Value) (A : Around) (outer : List Env) (s : Shared) (H : Hp) (vs : List V) (Q : VK) (E : XK), Room k (A.deeper (envOfC qual (defScope st) s.heap.objs.size f cdv)) → sp vs H Q E →
      ∃ t, PSs (cxOf CX0 P w K mg base N qual (defScope st) f cdv A outer s H E).nox (defBody st) t ∧ t { nx := fun _ H' => Q .non H', rt := Q } (start N vs) H) : FnOk P w K mg base CX0 (k + 1) f fd ps sp := by
  obtain ⟨oc, od, kV, doc, pm, an, cdv, ct, osl, rfl, lk, hcd⟩ := F.ex
  refine fn_of lk hcd S len fun A outer s H vs Q E hr hsp => ?_
  obtain ⟨t, h, q⟩ := hbody cdv A outer s H vs Q E hr hsp
  exact ⟨t, h.nox, q⟩
/-- how its arguments bind (no defaults): h is «fun _ _ _ _ _ _ us hl => match us, hl with | [_, _], _ => rfl», one _ a parameter -/
theorem Fun.binds {x qual : Str} {st : Stmt} {f : Addr} {fd : FuncData} {ps : List Str} (F : Fun K x qual st f fd)
    (h : ∀ (kV doc pm : Value) (an : Option Addr) (cdv ct : Value) (us : List Value), us.length = ps.length → bindArgs (PySem.W.fnOf x qual (defArgs st) (defBody st) (defScope st) .none kV doc pm an cdv ct) ⟨us, []⟩ = pure (ps.zip us)) : Binds K fd ps [] := by
  obtain ⟨oc, od, kV, doc, pm, an, cdv, ct, osl, rfl, lk, hcd⟩ := F.ex
  exact .all (h kV doc pm an cdv ct)
theorem fun_mk {x qual : Str} {st : Stmt} {f : Addr} {oc : Value} {od an : Option Addr} {osl : Array (Option Value)} {kV doc pm cdv ct : Value} (l : K.lookup f = some ⟨oc, od, .func (PySem.W.fnOf x qual (defArgs st) (defBody st) (defScope st) .none kV doc pm an cdv ct), osl⟩)
    (c : PySem.W.codeIn K cdv qual = true) (k : PySem.W.keepIn K (.ref f) = true) : Fun K x qual st f (PySem.W.fnOf x qual (defArgs st) (defBody st) (defScope st) .none kV doc pm an cdv ct) := ⟨⟨oc, od, kV, doc, pm, an, cdv, ct, osl, rfl, l, c⟩, k⟩
end
/-! ### expressions in short: the name that stands in the i-th slot -/
section
variable {X : Cx}
theorem pv (i : Nat) {x : Str} {pos : Pos} (hN : X.N[i]? = some x := by rfl) (hv : Vis X.env.scope x := by first | exact Or.inl rfl | exact Or.inr (Or.inl rfl) | exact Or.inr (Or.inr rfl)) (hd : (x == ("__debug__" : Str)) = false := by decide)
    (hcd : (x == ("__classdict__" : Str)) = false := by decide) : PE X (.Name x pos) (tVar i) := pe_var hN hv hd hcd
end

/-! ### tests -/
theorem iteF {A B : Prop} (h : B) : if false = true then A else B := by
  rw [if_neg Bool.false_ne_true]
  exact h
theorem iteT {A B : Prop} (h : A) : if true = true then A else B := by
  rw [if_pos rfl]
  exact h
theorem ite2 {c A B : Prop} [Decidable c] (h1 : c → A) (h2 : ¬ c → B) : if c then A else B := by
  by_cases h : c
  · rw [if_pos h]
    exact h1 h
  · rw [if_neg h]
    exact h2 h
/-! ### heaps -/
/-- all that was tracked is as it was -/
def Same (H H' : Hp) : Prop := ∀ b o, H b = some o → H' b = some o
theorem Same.refl (H : Hp) : Same H H := fun _ _ h => h
theorem Same.trans {H H1 H2 : Hp} (a : Same H H1) (b : Same H1 H2) : Same H H2 := fun c o h => b c o (a c o h)
theorem Same.free {H H' : Hp} (e : Same H H') {l : Addr} (h : H' l = Option.none) : H l = Option.none := by
  cases q : H l with
  | none => rfl
  | some o =>
    rw [e l o q] at h
    cases h
theorem Same.seq {K : PySem.W.Frag} {H H' : Hp} {a : Addr} {xs : List V} (e : Same H H') (h : SqL K H a xs) : SqL K H' a xs := by
  rcases h with (h | ⟨o, h⟩) | h
  · exact .inl (.inl (e _ _ h))
  · exact .inl (.inr ⟨o, e _ _ h⟩)
  · exact .inr h

end L2

namespace L2
open PySem PySem.Spec PyProof.Rows

theorem ObjOk.here {P : Program} {w : World} {H : Hp} {h : Heap} {a : Addr} {o : HO} (x : ObjOk P w H h a o) : ∃ ob, h.get? a = some ob := by
  cases o with
  | lst xs => obtain ⟨_, _, _, _, e⟩ := x; exact ⟨_, e⟩
  | tup xs => obtain ⟨_, _, _, ob, e, _⟩ := x; exact ⟨_, e⟩
  | dK kvs => obtain ⟨_, _, _, _, ob, _, _, e, _⟩ := x; exact ⟨_, e⟩
  | dT kvs => obtain ⟨_, _, _, _, ob, _, _, e, _⟩ := x; exact ⟨_, e⟩
  | set S n => obtain ⟨ob, _, _, _, e, _⟩ := x; exact ⟨_, e⟩
  | ins C dx fs => obtain ⟨_, _, _, e, _⟩ := x; exact ⟨_, e⟩
  | own y => exact x
  | xd fs => obtain ⟨_, ⟨_, _, _, e, _⟩, _⟩ := x; exact ⟨_, e⟩
  | rng lo hi => obtain ⟨_, _, _, e⟩ := x; exact ⟨_, e⟩
  | frz ob u => obtain ⟨e, _⟩ := x; exact ⟨_, e⟩
  | tbl ps => exact ⟨_, x⟩
  | met f y => exact ⟨_, x⟩
  | ext φ => obtain ⟨_, e, _⟩ := x; exact e
theorem mem_frs {env : Env} {l : List Env} {L : Addr} (hf : env.frame = some L) : L ∈ frs (env :: l) := by
  unfold frs; rw [List.filterMap_cons, hf]; exact List.mem_cons_self
theorem mem_frs_tail {env : Env} {l : List Env} {L b : Addr} (hf : env.frame = some L) (hb : b ∈ frs l) : b ∈ frs (env :: l) := by
  unfold frs at *; rw [List.filterMap_cons, hf]; exact List.mem_cons_of_mem _ hb
theorem frames_over {h base base' : Heap} : ∀ {l : List Env}, h.FunFrames base l → (∀ b ∈ frs l, base'.get? b = none) → h.FunFrames base' l
  | [], _, _ => trivial
  | _ :: _, ⟨hk, ⟨L, o, hf, _, ho, hd⟩, hr⟩, k => ⟨hk, ⟨L, o, hf, k L (mem_frs hf), ho, hd⟩, frames_over hr fun b hb => k b (mem_frs_tail hf hb)⟩
/-- an exception in flight, behind a call that began with the heap s -/
structure Fly (base : Heap) (outer : List Env) (H : Hp) (s h : Heap) (e : Addr) (cls : Value) : Prop where
  stays : base.StaysIn h
  frames : h.FunFrames base outer
  baseE : base.get? e = none
  newE : s.get? e = none
  freeE : H e = none
  tr : ∃ oe vs T oT ts, h.get? e = some oe ∧ oe.cls = cls ∧ oe.data = .fields vs ∧ vs[1]? = some (.ref T) ∧ T ≠ e ∧ h.get? T = some oT ∧ oT.data = .fields ts ∧ ts[3]? = some .none ∧ base.get? T = none ∧ s.get? T = none ∧ H T = none
/-- how it lies behind a call -/
def CXe (P : Program) (w : World) (base : Heap) : CXT := fun outer H s E e s' =>
  ∃ (ea C : Addr) (H' : Hp), e = .ref ea ∧ s'.os = s.os ∧ AllBare s'.gens ∧ Un (frs outer) [] H H' s.heap s'.heap ∧ HOk P w H' s'.heap ∧ Fly base outer H' s.heap s'.heap ea (.ref C) ∧ E (.ref C) none H'

section
variable {X : Cx} {pins : List (Addr × Obj)} {σ : St} {H : Hp} {s : Shared} {e : Addr} {cls : Value}
end
end L2
namespace L2
open PySem PySem.Spec PyProof.Rows
section
variable {X : Cx} {pins : List (Addr × Obj)} {σ : St} {H H' : Hp} {s s' : Shared} {e : Addr} {cls : Value}
/-- an exception of a callee leaves the frame too -/
theorem lv_on {Q : Unit → Shared → Prop} {E : Value → Shared → Prop} (I : Inv X pins σ H s) (hst : X.stack = X.env :: X.outer) (hf : X.env.frame = some X.env.locals) (hex : X.ex = [])
    (u : Un (frs X.stack) [] H H' s.heap s'.heap) (hok : HOk X.prog X.w H' s'.heap) (fl : Fly X.base X.stack H' s.heap s'.heap e cls)
    (hQ : ∀ h', Un X.fs [] X.H₀ H' X.s₀.heap h' → HOk X.prog X.w H' h' → Fly X.base X.outer H' X.s₀.heap h' e cls → Q () { s' with heap := h' }) :
    wpAny (model X.prog X.w) X.A (leaving X.env (.ref e)) Q E s' := by
  obtain ⟨y1, y2, y3, y4, y5, oe, ws, T, oT, ts, t1, t2, t3, t4, t6, t7, t8, t9, t10, t11, t12⟩ := fl
  rw [hst] at y2 u
  have hfs := I.stack
  rw [hst] at hfs
  have hfr : X.A.frames = some (X.env :: X.outer) := by rw [← hst]; exact I.ok.frames
  have fbase : ∀ b ∈ frs (X.env :: X.outer), X.base.get? b = none := fun b hb => (hfs.mem hb).1
  have fdat : ∀ b ∈ frs (X.env :: X.outer), ∃ o, s'.heap.get? b = some o ∧ ∀ vs, o.data ≠ .fields vs := fun b hb => (y2.mem hb).2
  have funt : ∀ b ∈ frs (X.env :: X.outer), H' b = none := fun b hb => by
    obtain ⟨_, o, ho, _⟩ := hfs.mem hb
    exact u.free b o ho (I.stkFree b (by rw [hst]; exact hb)) (by simp)
  have bget : ∀ b o, b ∉ e :: T :: frs (X.env :: X.outer) → s'.heap.get? b = some o → (PySem.W.hideAll s'.heap (e :: T :: frs (X.env :: X.outer))).get? b = some o := fun b o n q => PySem.W.hideAll_get _ q n
  have bof : ∀ b o, (PySem.W.hideAll s'.heap (e :: T :: frs (X.env :: X.outer))).get? b = some o → s'.heap.get? b = some o := fun b o q => PySem.W.of_hideAll _ q
  have bno : ∀ b ∈ e :: T :: frs (X.env :: X.outer), (PySem.W.hideAll s'.heap (e :: T :: frs (X.env :: X.outer))).get? b = none := fun b hb => PySem.W.hideAll_none _ hb
  refine wpAny_leaving_next (base := PySem.W.hideAll s'.heap (e :: T :: frs (X.env :: X.outer))) (cls := cls) hfr (frames_over y2 fun b hb => bno b (by simp [hb])) hf
    ⟨oe, ws, T, oT, ts, t1, t2, t3, t4, bno T (by simp), t6, t7, t8, t9⟩ (fun b o q => bof b o q) (bno e (by simp)) fun h' hL => ?_
  obtain ⟨k1, k2, k3, k4⟩ := hL
  have neL : ∀ b o, X.s₀.heap.get? b = some o → b ≠ X.env.locals := fun b o q => Nat.ne_of_lt (Nat.lt_of_lt_of_le (Heap.lt_size q) I.ok.above)
  have inS : ∀ b, b ∈ frs (X.env :: X.outer) → b = X.env.locals ∨ b ∈ X.fs := fun b hb => by
    rcases List.mem_cons.mp (I.stkSub b (by rw [hst]; exact hb)) with z | z
    · exact .inl z
    · exact .inr z
  have keep : ∀ b o, b ∉ frs (X.env :: X.outer) → b ≠ e → b ≠ T → s'.heap.get? b = some o → h'.get? b = some o := fun b o n n1 n2 q => k1 b o (bget b o (by simp [n, n1, n2]) q)
  have slot : ∀ b o, b ∈ frs (X.env :: X.outer) → s'.heap.get? b = some o → ∃ sl, h'.get? b = some { o with slots := sl } := fun b o hb q => by
    obtain ⟨o', q', nf⟩ := fdat b hb
    rw [q] at q'; cases q'
    exact k4 b o q nf
  have old : ∀ b o, s.heap.get? b = some o → b ≠ e ∧ b ≠ T := fun b o q => ⟨fun z => (by rw [z, y4] at q; cases q), fun z => (by rw [z, t11] at q; cases q)⟩
  have there0 : ∀ b, s.heap.get? b = none → X.s₀.heap.get? b = none := fun b q => by
    cases r : X.s₀.heap.get? b with
    | none => rfl
    | some o =>
      obtain ⟨o', z⟩ := I.base.there b o r (by rw [hex]; simp)
      rw [z] at q; cases q
  have trk : ∀ b o, H' b = some o → b ∉ frs (X.env :: X.outer) ∧ b ≠ e ∧ b ≠ T := fun b o q => ⟨fun hb => (by rw [funt b hb] at q; cases q), fun z => (by rw [z, y5] at q; cases q), fun z => (by rw [z, t12] at q; cases q)⟩
  refine hQ h' ⟨fun b o q n hb _ => ?_, fun b o q n hb _ => ?_, fun b o q n _ => ?_, fun b o q _ => ?_, fun b xs q => u.tups b xs (I.base.tups b xs q), fun b o x q => u.frzs b o x (I.base.frzs b o x q), fun b ps q => ?_⟩ (fun b o q => ?_) ⟨fun b o q => ?_, ?_, y3, there0 e y4, y5, ?_⟩
  · have q1 := I.base.keep b o q n hb (by rw [hex]; simp)
    have n1 := I.base.free b o q n (by rw [hex]; simp)
    have nf : b ∉ frs (X.env :: X.outer) := fun z => by
      rcases inS b z with z | z
      · exact neL b o q z
      · exact hb z
    exact keep b o nf (old b o q1).1 (old b o q1).2 (u.keep b o q1 n1 nf (by simp))
  · obtain ⟨sl, q1⟩ := I.base.slot b o q n hb (by rw [hex]; simp)
    have n1 := I.base.free b o q n (by rw [hex]; simp)
    obtain ⟨sl2, q2⟩ := u.slot b _ q1 n1 (mem_frs_tail hf hb) (by simp)
    obtain ⟨sl', q3⟩ := slot b _ (mem_frs_tail hf hb) q2
    exact ⟨sl', q3⟩
  · obtain ⟨o', q1⟩ := I.base.there b o q (by rw [hex]; simp)
    exact u.free b o' q1 (I.base.free b o q n (by rw [hex]; simp)) (by simp)
  · obtain ⟨o', q1⟩ := I.base.there b o q (by rw [hex]; simp)
    obtain ⟨o2, q2⟩ := u.there b o' q1 (by simp)
    by_cases hb : b ∈ frs (X.env :: X.outer)
    · obtain ⟨sl, q3⟩ := slot b o2 hb q2
      exact ⟨_, q3⟩
    · exact ⟨_, keep b o2 hb (old b o' q1).1 (old b o' q1).2 q2⟩
  · obtain ⟨m1, e1⟩ := I.base.tbls b ps q
    obtain ⟨m2, e2⟩ := u.tbls b _ e1
    exact ⟨m1 ++ m2, by rw [e2, Array.append_assoc]⟩
  · exact (hok b o q).stay (fun c v hc r => by
      have z : c ∉ frs (X.env :: X.outer) ∧ c ≠ e ∧ c ≠ T := by
        rcases hc with rfl | hc
        · exact trk _ _ q
        · exact trk _ _ hc
      exact keep c v z.1 z.2.1 z.2.2 r) (fun _ z => z) fun _ _ z => z
  · refine keep b o (fun z => by rw [fbase b z] at q; cases q) (fun z => by rw [z, y3] at q; cases q) (fun z => by rw [z, t10] at q; cases q) (y1 b o q)
  · obtain ⟨_, _, k2⟩ := frames_over k2 (base' := X.base) fun b hb => fbase b hb
    exact k2
  · obtain ⟨oe', ws', T', oT', ts', r1, r2, r3, r4, r5, r6, r7, r8, r9⟩ := k3
    by_cases hT : T' = T
    · subst hT
      exact ⟨oe', ws', T', oT', ts', r1, r2, r3, r4, r6, r7, r8, r9, t10, there0 T' t11, t12⟩
    · have tf : T' ∉ frs (X.env :: X.outer) := fun z => by
        obtain ⟨_, o', q', nf⟩ := k2.mem z
        rw [r7] at q'; cases q'
        exact nf ts' r8
      have tn : s'.heap.get? T' = none := by
        cases r : s'.heap.get? T' with
        | none => rfl
        | some o => rw [bget T' o (by simp [tf, r6, hT]) r] at r5; cases r5
      have tn0 : s.heap.get? T' = none := by
        cases r : s.heap.get? T' with
        | none => rfl
        | some o =>
          obtain ⟨o', z⟩ := u.there T' o r (by simp)
          rw [tn] at z; cases z
      refine ⟨oe', ws', T', oT', ts', r1, r2, r3, r4, r6, r7, r8, r9, ?_, there0 T' tn0, ?_⟩
      · cases r : X.base.get? T' with
        | none => rfl
        | some o => have := y1 T' o r; rw [tn] at this; cases this
      · cases r : H' T' with
        | none => rfl
        | some o => obtain ⟨ob, z⟩ := (hok T' o r).here; rw [tn] at z; cases z
end
section
variable {P : Program} {w : World} {K : PySem.W.Frag} {mg : Str → Option Value} {base : Heap} {N : List Str} {qual : Str} {scope : Scope} {f : Addr} {cd : Value} {A : Around} {outer : List Env} {s : Shared} {H : Hp} {E : XK}
/-- what a callee raises passes through a def's body -/
theorem passE : Passes (CXe P w base) (cxOf (CXe P w base) P w K mg base N qual scope f cd A outer s H E) E := by
  intro pins σ H1 s1 e s' I h
  obtain ⟨ea, C, H', rfl, os, bare, un, hok, fl, q⟩ := h
  exact lv_on I rfl rfl rfl un hok fl fun h' u' hok' fl' => ⟨ea, C, H', rfl, os.trans I.os, bare, u', hok', fl', q⟩
/-- an exception may be raised in X -/
def Throws (X : Cx) (E : XK) : Prop := ∀ (pins : List (Addr × Obj)) (σ : St) (H : Hp) (s : Shared) (h' : Heap) (e C : Addr) (vs : List Value), Inv X pins σ H s → Heap.MadeExcOf s.heap h' e (.ref C) vs → E (.ref C) none H → X.xe (.ref e) { s with heap := h' }
end
end L2

namespace My
open PySem PySem.Spec PySem.Calls PySem.W PyProof.Rows PySem.Builtin PySem.Builtin.ObjectAttr PySem.Builtin.Getset_descriptor
/-- at x stands an object of the own class at D -/
def ClsAt (x D : Addr) (h : Heap) : Prop := ∃ o, h.get? x = some o ∧ o.cls = .ref D
theorem clsAt_ty {x D : Addr} (M : Model) (h : Heap) (p : ClsAt x D h) : Looks M h (typeOf (.ref x)) (.ref D) := by
  obtain ⟨o, a, b⟩ := p
  exact b ▸ (Looks.ld a).andThen .now
theorem find_data {K : Frag} {M : Model} {h : Heap} (X : K.In h) {x D : Addr} {name : Str} {g a : Value} (ha : findIn K (.ref D) name = some (some a)) (hn : specialIn K a "__get__" = some (some g)) (htk : takesIn K a = some true) :
    Looks M h (find (.ref x) (.ref D) name) (.bind g a) :=
  (looks_findIn X ha).andThen ((show Looks M h (getOf (some a)) (some g) from looks_specialIn X hn).andThen ((show Looks M h (dataDescriptor? (some a) (some g)) (some (g, a)) from (looks_takesIn X htk).andThen .now).andThen (Looks.tag .now)))
section
variable {prog : Program} {w : World} {A : Around} {E : Value → Shared → Prop} {s : Shared} {K : Frag} {x D : Addr} {R : Result → Shared → Prop}
theorem class_of {tp : Value} (X : K.In s.heap) (p : ClsAt x D s.heap) (hm : mroIn K D (.type "object") = some true) (h : R (.ok (.ret (.ref D))) s) :
    codeAny (model prog w) A (.call (.builtin "getset_descriptor.__get__") ⟨[.builtin "object.__class__", .ref x, tp], []⟩) R s := by
  obtain ⟨h0, g0, d0, t0, o0⟩ := s
  have T0 := clsAt_ty (model prog w) h0 p
  have T1 := looks_mroIn (M := model prog w) X hm
  refine codeAny_call_builtin KF.slot_gs.plain KF.entry_gs (KF.slot_gs.check _ _ _ _ _ _ _ _ KF.type_class (KF.args_gs _ _ _) ?_)
  unfold Builtin.«getset_descriptor.__get__» descrGet
  rw [dga_obj]
  refine wpAny_bind (wpAny_pure ?_)
  unfold descrGetter descrCheckInstance descrNameAndClass isInstance
  simp only [KF.owner_class]
  repeat lk
  refine ⟨Code.quiet_builtin _ (by decide +kernel), codeAny_builtin KF.entry_class ?_⟩
  unfold Builtin.«object.__class__» shownTypeOf
  repeat lk
  exact h
theorem ga_check {M : Model} {Q : Unit → Shared → Prop} {nameV : Value} {h0 : Heap} {g0 : Array GenState} {d0 : Drawn} {t0 : Nat} {o0 : OsState} (T0 : Looks M h0 (typeOf (.ref x)) (.ref D)) (TS : Looks M h0 (isSubtype (.ref D) (.type "BaseException")) true) (hq : Q () ⟨h0, g0, d0, t0, o0⟩) :
    wpAny M A (checkBuiltinCall "BaseException.__getattribute__" ⟨[.ref x, nameV], []⟩) Q E ⟨h0, g0, d0, t0, o0⟩ := by
  have e1 : builtinKind "BaseException.__getattribute__" = some .slot := by decide +kernel
  have e2 : splitId "BaseException.__getattribute__" = some ("BaseException", "__getattribute__") := by decide +kernel
  have e3 := F.args_bexc_ga (.ref x) nameV
  simp only [checkBuiltinCall, e1, e2]
  refine wpAny_bind ?_
  unfold isInstance
  repeat (first | lk | wp_step)
  exact hq
theorem ga_entry {Q : Fin → Shared → Prop} {tk : Tok} {h0 : Heap} {g0 : Array GenState} {d0 : Drawn} {t0 : Nat} {o0 : OsState} (X : K.In h0) (p : ClsAt x D h0) (ha : findIn K (.ref D) "__class__" = some (some (.builtin "object.__class__")))
    (hn : specialIn K (.builtin "object.__class__") "__get__" = some (some (.builtin "getset_descriptor.__get__"))) (htk : takesIn K (.builtin "object.__class__") = some true) (hm : mroIn K D (.type "object") = some true) (hq : Q (.done (.ret (.ref D))) ⟨h0, g0, d0, t0, o0⟩) :
    wpAny (model prog w) A (Builtin.«object.__getattribute__» ⟨[.ref x, .str "__class__" tk], []⟩) Q E ⟨h0, g0, d0, t0, o0⟩ := by
  have T0 := clsAt_ty (model prog w) h0 p
  have T2 := find_data (M := model prog w) X (x := x) ha hn htk
  unfold Builtin.«object.__getattribute__»
  refine wpAny_bind (wpAny_pure ?_)
  repeat (first | (with_reducible refine wpAny_bind (T0.at ?_)) | (with_reducible refine wpAny_bind (T2.at ?_)) | wp_step)
  refine class_of (s := ⟨h0, g0, d0, t0, o0⟩) X p hm ?_
  repeat (any_goals (first | assumption | wp_step))
theorem class_attr {Q : Option Value → Shared → Prop} (hg : findIn K (.ref D) "__getattribute__" = some (some (.builtin "BaseException.__getattribute__"))) (hgg : findIn K (.ref D) "__getattr__" = some none) (hsb : subIn K (.ref D) (.type "BaseException") = some true) (ha : findIn K (.ref D) "__class__" = some (some (.builtin "object.__class__")))
    (hn : specialIn K (.builtin "object.__class__") "__get__" = some (some (.builtin "getset_descriptor.__get__"))) (htk : takesIn K (.builtin "object.__class__") = some true) (hm : mroIn K D (.type "object") = some true)
    (X : K.In s.heap) (p : ClsAt x D s.heap) (h : Q (some (.ref D)) { s with toks := s.toks + 1 }) : wpAny (model prog w) A (getAttr? (.ref x) "__class__") Q E s := by
  obtain ⟨h0, g0, d0, t0, o0⟩ := s
  have T0 := clsAt_ty (model prog w) h0 p
  have T1 := looks_findIn (M := model prog w) X hg
  have T3 := looks_findIn (M := model prog w) X hgg
  have TS := looks_subIn (M := model prog w) X hsb
  have f3 := F.excAttr_ValueError.ga.bind (.ref x)
  have hx2 : (Value.builtin "BaseException.__getattribute__" == Value.builtin "object.__getattribute__") = false := by decide +kernel
  have hx1 : (onTheHeap (Value.ref D) && Value.builtin "BaseException.__getattribute__" == Value.builtin "object.__getattribute__") = false := by rw [hx2]; rfl
  unfold getAttr? getAttrBy? getAttrBy
  refine wpAny_bind (wpAny_mkText (wpAny_bind (wpAny_attempt (wpAny_holding (wpAny_bind (T0.at (wpAny_bind (T1.at ?_))))))))
  dsimp only
  rw [if_neg (by rw [hx1]; exact Bool.false_ne_true)]
  unfold getAttrByItsOwn hookBefore
  rw [if_pos (show onTheHeap (Value.ref D) = true from rfl)]
  refine wpAny_bind (T3.at ?_)
  repeat (any_goals (first | assumption | wp_step | lk))
  refine codeAny_call_builtin F.excAttr_ValueError.ga.plain F.entry_bexc_ga (ga_check T0 TS (ga_entry (K := K) X p ha hn htk hm ?_))
  repeat (any_goals (first | assumption | wp_step))
theorem kitx_exc (hg : findIn K (.ref D) "__getattribute__" = some (some (.builtin "BaseException.__getattribute__"))) (hgg : findIn K (.ref D) "__getattr__" = some none) (hsb : subIn K (.ref D) (.type "BaseException") = some true) (hd : hasDictIn K D = true) (ha : findIn K (.ref D) "__class__" = some (some (.builtin "object.__class__")))
    (hn : specialIn K (.builtin "object.__class__") "__get__" = some (some (.builtin "getset_descriptor.__get__"))) (htk : takesIn K (.builtin "object.__class__") = some true) (hm : mroIn K D (.type "object") = some true) :
    KitX K (.ref x) (.ref D) (ClsAt x D) where
  ty := fun M h _ p => clsAt_ty M h p
  it := fun M h X _ => by
    obtain ⟨c, hc, _⟩ := any_some hd
    unfold clsIn at hc
    split at hc
    · rename_i u1 u2 u3 u4 ho
      intro A' Q' E' s' k q
      unfold isType loadHead; exact wpAny_bind (wpAny_loadPart (k _ _ (X _ _ ho)) (wpAny_pure q))
    · cases hc
  ne := fun h tp dd its n sl X e => by
    obtain ⟨c, hc, _⟩ := any_some hd
    refine Bool.eq_false_iff.mpr fun q => ?_
    obtain rfl : D = tp := Value.ref.inj (beq_iff_eq.mp q)
    unfold clsIn at hc
    split at hc
    · rename_i u1 u2 u3 u4 ho
      have z := (X _ _ ho).symm.trans e; cases z
    · cases hc
  ca := fun X p k => class_attr hg hgg hsb ha hn htk hm X p k
end
end My

namespace L2
open PySem PySem.Spec PyProof.Rows
section
variable {X : Cx} {pins : List (Addr × Obj)} {σ : St} {H H' : Hp} {s s' : Shared} {e C : Addr}
/-- behind a callee's exception: what stays, whatever is noted in it and in the frames; T: its newest entry -/
structure Mid (X : Cx) (H' : Hp) (s : Heap) (s' : Heap) (e C : Addr) (B : Heap) (a0 : Value) (T : Addr) (h : Heap) : Prop where
  fly : Heap.FlyingW B (X.env :: X.outer) e (.ref C) a0 h
  slots : s'.UpToSlots h
theorem mid_inv {B h : Heap} {a0 : Value} {T : Addr} (I : Inv X pins σ H s) (hst : X.stack = X.env :: X.outer)
    (u : Un (frs X.stack) [] H H' s.heap s'.heap) (hok : HOk X.prog X.w H' s'.heap) (bare : AllBare s'.gens) (os : s'.os = s.os) (fl : Fly X.base X.stack H' s.heap s'.heap e (.ref C))
    (nT : s.heap.get? T = none) (fT : H' T = none) (hB : ∀ b o, b ∉ e :: T :: frs X.stack → s'.heap.get? b = some o → B.get? b = some o) (hfl : B.StaysIn h) (hsl : s'.heap.UpToSlots h) :
    Inv X pins σ H' { s' with heap := h } := by
  obtain ⟨y1, y2, y3, y4, y5, _⟩ := fl
  have fdat : ∀ b ∈ frs X.stack, ∃ o, s'.heap.get? b = some o ∧ ∀ vs, o.data ≠ .fields vs := fun b hb => (y2.mem hb).2
  have keep : ∀ b o, b ∉ frs X.stack → b ≠ e → b ≠ T → s'.heap.get? b = some o → h.get? b = some o := fun b o n n1 n2 q => hfl b o (hB b o (by simp [n, n1, n2]) q)
  have slot : ∀ b o, b ∈ frs X.stack → s'.heap.get? b = some o → ∃ sl, h.get? b = some { o with slots := sl } := fun b o hb q => by
    obtain ⟨o', q', nf⟩ := fdat b hb
    rw [q] at q'; cases q'
    exact hsl b o q nf
  have old : ∀ b o, s.heap.get? b = some o → b ≠ e ∧ b ≠ T := fun b o q => ⟨fun z => (by rw [z, y4] at q; cases q), fun z => (by rw [z, nT] at q; cases q)⟩
  have funt : ∀ b ∈ frs X.stack, H' b = none := fun b hb => by
    obtain ⟨_, o, ho, _⟩ := I.stack.mem hb
    exact u.free b o ho (I.stkFree b hb) (by simp)
  have trk : ∀ b o, H' b = some o → b ∉ frs X.stack ∧ b ≠ e ∧ b ≠ T := fun b o q => ⟨fun hb => (by rw [funt b hb] at q; cases q), fun z => (by rw [z, y5] at q; cases q), fun z => (by rw [z, fT] at q; cases q)⟩
  refine I.call' (s' := { s' with heap := h }) (ch := []) os ⟨fun b o q n hb _ => ?_, fun b o q n hb _ => ?_, u.free, fun b o q _ => ?_, u.tups, u.frzs, u.tbls⟩ (fun b o q => ?_) bare (fun b z => absurd z (by simp))
  · exact keep b o hb (old b o q).1 (old b o q).2 (u.keep b o q n hb (by simp))
  · obtain ⟨sl, q1⟩ := u.slot b o q n hb (by simp)
    obtain ⟨sl', q2⟩ := slot b _ hb q1
    exact ⟨sl', q2⟩
  · obtain ⟨o', q1⟩ := u.there b o q (by simp)
    by_cases hb : b ∈ frs X.stack
    · obtain ⟨sl, q2⟩ := slot b o' hb q1
      exact ⟨_, q2⟩
    · exact ⟨_, keep b o' hb (old b o q).1 (old b o q).2 q1⟩
  · exact (hok b o q).stay (fun c v hc r => by
      have z : c ∉ frs X.stack ∧ c ≠ e ∧ c ≠ T := by
        rcases hc with rfl | hc
        · exact trk _ _ q
        · exact trk _ _ hc
      exact keep c v z.1 z.2.1 z.2.2 r) (fun _ z => z) fun _ _ z => z
end
end L2

namespace L2
open PySem PySem.Spec PyProof.Rows
section
variable {X : Cx} {pins : List (Addr × Obj)} {σ : St} {H H' : Hp} {s s' : Shared} {e C : Addr}
/-- an exception of the class C stands at e, caught in X -/
def Landed (X : Cx) (pins : List (Addr × Obj)) (σ : St) (H' : Hp) (e C : Addr) (s1 : Shared) : Prop :=
  ∃ (H : Hp) (s s' : Shared) (B : Heap) (a0 : Value) (T : Addr), Inv X pins σ H s ∧ Un (frs X.stack) [] H H' s.heap s'.heap ∧ HOk X.prog X.w H' s'.heap ∧ AllBare s'.gens ∧ s'.os = s.os ∧ Fly X.base X.stack H' s.heap s'.heap e (.ref C) ∧
    s.heap.get? T = none ∧ H' T = none ∧ (∀ b o, b ∉ e :: T :: frs X.stack → s'.heap.get? b = some o → B.get? b = some o) ∧ Heap.FlyingW B (X.env :: X.outer) e (.ref C) a0 s1.heap ∧ s'.heap.UpToSlots s1.heap ∧ s1 = { s' with heap := s1.heap }
theorem Landed.inv {s1 : Shared} (l : Landed X pins σ H' e C s1) (hst : X.stack = X.env :: X.outer) : Inv X pins σ H' s1 := by
  obtain ⟨H, s, s', B, a0, T, I, u, hok, bare, os, fl, nT, fT, hB, hfl, hsl, es⟩ := l
  rw [es]
  exact mid_inv (a0 := a0) I hst u hok bare os fl nT fT hB hfl.1 hsl
theorem Landed.cls {s1 : Shared} (l : Landed X pins σ H' e C s1) : My.ClsAt e C s1.heap := by
  obtain ⟨H, s, s', B, a0, T, I, u, hok, bare, os, fl, nT, fT, hB, hfl, hsl, es⟩ := l
  exact hfl.there
theorem Landed.free {s1 : Shared} (l : Landed X pins σ H' e C s1) : H' e = none := by
  obtain ⟨H, s, s', B, a0, T, I, u, hok, bare, os, fl, _⟩ := l
  exact fl.freeE
/-- once more -/
theorem Landed.again {s1 : Shared} {M : Model} {A : Around} {E : Value → Shared → Prop} {Q : Unit → Shared → Prop} (l : Landed X pins σ H' e C s1) (h : ∀ s2, Landed X pins σ H' e C s2 → Q () s2) : wpAny M A (setFlight (.ref e) none) Q E s1 := by
  obtain ⟨H, s, s', B, a0, T, I, u, hok, bare, os, fl, nT, fT, hB, hfl, hsl, es⟩ := l
  refine lands_againW hfl fun h' f2 u2 => h _ ⟨H, s, s', B, a0, T, I, u, hok, bare, os, fl, nT, fT, hB, f2, hsl.trans u2, ?_⟩
  show ({ s1 with heap := h' } : Shared) = { s' with heap := h' }
  rw [es]
end
end L2

namespace L2
open PySem PySem.Spec PyProof.Rows
/-- within an except suite: the exception at e is being handled, nothing may be raised -/
abbrev Cx.exc (X : Cx) (e : Addr) : Cx := { X with A := X.A.mark (some (.ref e)), calm := false, xe := fun _ _ => False }
theorem Cx.Ok.exc {X : Cx} (ok : X.Ok) (e : Addr) : (X.exc e).Ok :=
  ⟨ok.mod, ok.kind, ok.glob, ok.blt, ok.above, ok.inj, ok.has, ok.cab, (fun z => nomatch z), ok.frames, ok.stk, ok.exf, ok.bs, ok.bsz, ok.noex, ok.exfs, ok.funs, ok.frf⟩
section
variable {X : Cx} {pins : List (Addr × Obj)} {σ : St} {H H' : Hp} {s s' : Shared} {e C : Addr}
theorem Inv.exc (I : Inv X pins σ H s) (e : Addr) : Inv (X.exc e) pins σ H s := ⟨I.ok.exc e, I.os, I.bare, I.base, I.loc, I.cell, I.free, I.freeC, I.pin, I.hok, I.len⟩
/-- the exception as a tracked thing -/
def excO (e C : Addr) : HO := .ext (My.ClsAt e C)
theorem Landed.held {s1 : Shared} (l : Landed X pins σ H' e C s1) (hst : X.stack = X.env :: X.outer) : Inv X pins σ (upd H' e (excO e C)) s1 := by
  have J := l.inv hst
  have fe := l.free
  obtain ⟨oe, he, hc⟩ := l.cls
  obtain ⟨H, s, s', B, a0, T, I, u, hok, bare, os, fl, _⟩ := l
  have ne : ∀ b o, s.heap.get? b = some o → b ≠ e := fun b o q z => by rw [z, fl.newE] at q; cases q
  have ne0 : ∀ b o, X.s₀.heap.get? b = some o → b ∉ X.ex → b ≠ e := fun b o q hx => by
    obtain ⟨o', q1⟩ := I.base.there b o q hx
    exact ne b o' q1
  have neH : ∀ b o, H' b = some o → b ≠ e := fun b o q z => by rw [z, fe] at q; cases q
  refine ⟨J.ok, J.os, J.bare, ⟨J.base.keep, J.base.slot, fun b o q n hx => ?_, J.base.there, fun b xs q => ?_, fun b o x q => ?_, fun b ps q => ?_⟩, J.loc, J.cell, ?_, fun x c q => ?_, fun p hp => ?_, fun b o q => ?_, J.len⟩
  · rw [upd_ne (ne0 b o q hx)]; exact J.base.free b o q n hx
  · have z := J.base.tups b xs q
    rw [upd_ne (neH _ _ z)]; exact z
  · have z := J.base.frzs b o x q
    rw [upd_ne (neH _ _ z)]; exact z
  · obtain ⟨m, z⟩ := J.base.tbls b ps q
    exact ⟨m, by rw [upd_ne (neH _ _ z)]; exact z⟩
  · obtain ⟨m, ⟨o, _, _, ho, _⟩, _⟩ := I.loc
    rw [upd_ne (ne _ o ho)]; exact J.free
  · obtain ⟨v, o, ho, _⟩ := I.cell x c q
    rw [upd_ne (ne _ o ho)]; exact J.freeC x c q
  · obtain ⟨q1, q2, q3, q4, q5⟩ := J.pin p hp
    obtain ⟨r1, _⟩ := I.pin p hp
    exact ⟨q1, by rw [upd_ne (ne _ _ r1)]; exact q2, q3, q4, q5⟩
  · by_cases hb : b = e
    · subst hb
      rw [upd_same] at q; cases q
      refine ⟨⟨oe, he, hc⟩, ⟨oe, he⟩, fun h1 h2 p k => ?_⟩
      obtain ⟨o1, p1, p2⟩ := p
      exact ⟨o1, k o1 p1, p2⟩
    · rw [upd_ne hb] at q
      exact (J.hok b o q).stay (fun c v _ r => r) (fun c r => by rw [upd_ne (neH _ _ r)]; exact r) fun c xs r => by rw [upd_ne (neH _ _ r)]; exact r
/-- handlers: at the exception e of the class C -/
def PH (X : Cx) (hs : List ExceptHandler) (th : Addr → Addr → TS) : Prop :=
  ∀ (pins : List (Addr × Obj)) (s1 : Shared) (σ : St) (H' : Hp) (e C : Addr) (D : Ends), Landed X pins σ H' e C s1 → th e C D σ H' → wpAny (model X.prog X.w) X.A (handleBy (.ref e) X.env hs) (SP X pins D) X.xe s1
def hAs (K : PySem.W.Frag) (B : Addr) (i : Nat) (t : Addr → TS) (tr : Addr → Addr → TS) : Addr → Addr → TS := fun e C D σ H' => ∃ b, PySem.W.exmOne K (.ref C) (.ref B) = some b ∧
  if b = true then t e { nx := fun σ' H2 => D.nx (σ'.set i none) H2, rt := D.rt, bk := fun σ' H2 => D.bk (σ'.set i none) H2, ct := fun σ' H2 => D.ct (σ'.set i none) H2 } (σ.set i (some (.ref e))) (upd H' e (excO e C)) else tr e C D σ H'
def hNo (K : PySem.W.Frag) (B : Addr) (t : Addr → TS) (tr : Addr → Addr → TS) : Addr → Addr → TS := fun e C D σ H' => ∃ b, PySem.W.exmOne K (.ref C) (.ref B) = some b ∧
  if b = true then t e D σ (upd H' e (excO e C)) else tr e C D σ H'
/-- a try's body: what a callee raises goes to the handlers, which stand in X; P: what is known at a raise (the frame's values, the class, the heap) -/
def caughtBy (X : Cx) (pins : List (Addr × Obj)) (R : Addr → St → Hp → Prop) : Value → Shared → Prop := fun ev s' =>
  ∃ (σ : St) (H : Hp) (s : Shared) (E : XK), Inv X pins σ H s ∧ CXe X.prog X.w X.base X.stack H s E ev s' ∧ ∀ C H', E (.ref C) none H' → R C σ H'
end
end L2

namespace L2
open PySem PySem.Spec PyProof.Rows
/-- what a try's body wants of exceptions: a class and a heap of R, the frame as it stood -/
def trX (X : Cx) (pins : List (Addr × Obj)) (σ₀ : St) (R : Addr → Hp → Prop) : Value → Shared → Prop := fun ev s' =>
  ∃ (H : Hp) (s : Shared) (E : XK), Inv X pins σ₀ H s ∧ CXe X.prog X.w X.base X.stack H s E ev s' ∧ ∀ C H', E (.ref C) none H' → R C H'
abbrev Cx.tr (X : Cx) (pins : List (Addr × Obj)) (σ₀ : St) (R : Addr → Hp → Prop) : Cx := { X with pn := X.pn ++ pins, xe := trX X pins σ₀ R }
def XE (R : Addr → Hp → Prop) : XK := fun c _ H' => ∃ C, c = .ref C ∧ R C H'
section
variable {X : Cx} {pins : List (Addr × Obj)} {σ σ₀ : St} {H H' : Hp} {s s' : Shared} {R : Addr → Hp → Prop}
theorem Cx.Ok.tr (ok : X.Ok) : (X.tr pins σ₀ R).Ok :=
  ⟨ok.mod, ok.kind, ok.glob, ok.blt, ok.above, ok.inj, ok.has, ok.cab, ok.hd, ok.frames, ok.stk, ok.exf, ok.bs, ok.bsz, ok.noex, ok.exfs, ok.funs, ok.frf⟩
theorem Inv.tr (I : Inv X pins σ H s) : Inv (X.tr pins σ₀ R) [] σ H s :=
  ⟨I.ok.tr, I.os, I.bare, I.base, I.loc, I.cell, I.free, I.freeC, fun p hp => I.pin p (by simpa using hp), I.hok, I.len⟩
/-- a statement, an expression at a known frame -/
def PS1 (X : Cx) (σ₀ : St) (st : Stmt) (t : TS) : Prop :=
  ∀ (pins : List (Addr × Obj)) (s : Shared) (H : Hp) (D : Ends), Inv X pins σ₀ H s → t D σ₀ H → wpAny (model X.prog X.w) X.A (exec st X.env) (SP X pins D) X.xe s
def PE1 (X : Cx) (σ₀ : St) (e : Expr) (t : TE) : Prop :=
  ∀ (pins : List (Addr × Obj)) (s : Shared) (H : Hp) (Q : VK), Inv X pins σ₀ H s → t σ₀ H Q → wpAny (model X.prog X.w) X.A (eval e X.env) (EP X pins σ₀ Q) X.xe s
def Passes1 (CX : CXT) (X : Cx) (σ₀ : St) (E : XK) : Prop := ∀ (pins : List (Addr × Obj)) (H : Hp) (s : Shared) (e : Value) (s' : Shared), Inv X pins σ₀ H s → CX X.stack H s E e s' → X.xe e s'
theorem Passes.one {CX : CXT} {E : XK} (h : Passes CX X E) : Passes1 CX X σ₀ E := fun pins H s e s' I q => h pins σ₀ H s e s' I q
theorem run_fn1 {CX : CXT} {k : Nat} {f : Addr} {fd : FuncData} {ps : List Str} {sp : Sp} {dvs : List V} {ds : List Value} {E : XK} {Q : VK} {us : List Value} {vs : List V} (F : FnOk X.prog X.w X.K X.mg X.base CX k f fd ps sp) (hr : Room k X.A) (hb : Binds X.K fd ps ds) (hd : Vals dvs ds) (hx : Passes1 CX X σ₀ E)
    (I : Inv X pins σ₀ H s) (r : Vals vs us) (h : sp (vs ++ dvs) H Q E) : wpAny (model X.prog X.w) X.A (call (.ref f) us) (EP X pins σ₀ Q) X.xe s := by
  have r2 : Vals (vs ++ dvs) (us ++ ds) := r.append hd
  have hl : (us ++ ds).length = ps.length := by rw [← r2.length]; exact F.len _ _ _ _ h
  refine wpAny_call (codeAny_mono (F.run X.A X.stack s H ⟨us, []⟩ (us ++ ds) (vs ++ dvs) Q E hr I.env0 (hb s us I.kIn hl) r2 h) fun r s' hq => ?_)
  cases r with
  | error e => exact hx pins H s e s' I hq
  | ok fl =>
    cases fl with
    | ret u => exact I.after hq
    | next => exact False.elim hq
    | brk => exact False.elim hq
    | cont => exact False.elim hq
/-- o.m(e, ..) where o's class is one of several, all of whose m keep one promise -/
structure Disp (P : Program) (w : World) (K : PySem.W.Frag) (mg : Str → Option Value) (base : Heap) (CX : CXT) (k : Nat) (m : Str) (ps : List Str) (sp : Sp) (C : Addr) : Prop where
  cl : Cls K C
  to : ∃ (f : Addr) (fd : FuncData), Meth K C m f ∧ FnOk P w K mg base CX k f fd ps sp ∧ Binds K fd ps []
def tMethD (Ds : Addr → Prop) (m : Str) (sp : Sp) (E : XK) (ta : TE) (t : TA) : TE := fun σ H Q => ta σ H fun x H1 => ∃ a C dx fs, x = .ref a ∧ H1 a = some (.ins C dx fs) ∧ Ds C ∧ fs.lookup m = none ∧ t σ H1 fun vs H2 => sp (x :: vs) H2 Q E
theorem PE1.all {e : Expr} {t : TE} (h : ∀ σ₀, PE1 X σ₀ e t) : PE X e t := fun pins s σ H Q I q => h σ pins s H Q I q
/-- try: one statement -/
def tTry (t : (Addr → Hp → Prop) → TS) (th : Addr → Addr → TS) : TS := fun D σ H => ∃ R : Addr → Hp → Prop, t R D σ H ∧ ∀ e C H', H' e = none → R C H' → th e C D σ H'
end
end L2

namespace L2
open PySem PySem.Spec PyProof.Rows
/-- a dict of the module, its keys texts -/
def TopDict (w : World) (K : PySem.W.Frag) (a : Addr) : Prop := ∃ es n, K.lookup a = some ⟨.type "dict", none, .dict es n, #[]⟩ ∧ PySem.W.KeysLit w.params es.toList
section
variable {X : Cx} {a : Addr} {ke : Expr} {tk : TE} {p pos : Pos} {D : Str}
def tTop (K : PySem.W.Frag) (a : Addr) (tk : TE) : TE := fun σ H Q => tk σ H fun x H1 => ∃ (k : Str) (u : Value) (v : V), x = .str k ∧ PySem.W.nsIn K a k = some (some u) ∧ RelV v u ∧ Q v H1
/-- k in D -/
def rTopIn (w : World) (K : PySem.W.Frag) : R2 := fun x y H Q => ∃ (k : Str) (a : Addr) (r : Option Value), x = .str k ∧ y = .ref a ∧ TopDict w K a ∧ (a == sysModules) = false ∧ PySem.W.nsIn K a k = some r ∧ Q (.bl r.isSome) H
/-- f(e, ..) where f is any expression -/
def tCallV (P : Program) (w : World) (K : PySem.W.Frag) (mg : Str → Option Value) (base : Heap) (CX : CXT) (k : Nat) (E : XK) (tf : TE) (t : TA) : TE := fun σ H Q => tf σ H fun x H1 => ∃ (f : Addr) (fd : FuncData) (ps : List Str) (sp : Sp), x = .ref f ∧ FnOk P w K mg base CX k f fd ps sp ∧ PySem.W.keepIn K (.ref f) = true ∧ Binds K fd ps [] ∧ t σ H1 fun vs H2 => sp vs H2 Q E
end
end L2

namespace L2
open PySem PySem.Spec PyProof.Rows
section
variable {X : Cx}
def rIxTop (w : World) (K : PySem.W.Frag) : R2 := fun x y H Q => ∃ (a : Addr) (k : Str) (u : Value) (v : V), x = .ref a ∧ y = .str k ∧ TopDict w K a ∧ PySem.W.nsIn K a k = some (some u) ∧ RelV v u ∧ Q v H
/-- what isinstance asks of an exception's class -/
structure ExcCls (K : PySem.W.Frag) (C : Addr) : Prop where
  hg : PySem.W.findIn K (.ref C) "__getattribute__" = some (some (.builtin "BaseException.__getattribute__"))
  hgg : PySem.W.findIn K (.ref C) "__getattr__" = some none
  hsb : PySem.W.subIn K (.ref C) (.type "BaseException") = some true
  hd : PySem.W.hasDictIn K C = true
  ha : PySem.W.findIn K (.ref C) "__class__" = some (some (.builtin "object.__class__"))
  hn : PySem.W.specialIn K (.builtin "object.__class__") "__get__" = some (some (.builtin "getset_descriptor.__get__"))
  ht : PySem.W.takesIn K (.builtin "object.__class__") = some true
  hm : PySem.W.mroIn K C (.type "object") = some true
def TyX (K : PySem.W.Frag) (H : Hp) (x : V) (t : Value) : Prop := TyOf K H x t ∨ ∃ e C, x = .ref e ∧ H e = some (excO e C) ∧ t = .ref C ∧ ExcCls K C
def rIsi (K : PySem.W.Frag) : List V → Hp → VK → Prop := fun vs H Q => ∃ (x c : V) (cv t : Value) (b : Bool), vs = [x, c] ∧ RelV c cv ∧ (∀ u, RelV c u → u = cv) ∧ TyX K H x t ∧ PySem.W.kitOne K t cv = some b ∧ Q (.bl b) H
theorem call_isinst : CallR X (.builtin "isinstance") (rIsi X.K) := by
  intro pins s σ H xs us Q I r h
  obtain ⟨x, c, cv, t, b, rfl, rc, ic, ty, e, q⟩ := h
  obtain ⟨u, w', rfl, ru, rw'⟩ := vals2 r
  cases ic w' rw'
  rcases ty with ty | ⟨ea, C, rfl, he, rfl, ec⟩
  · exact isinst_ok I ru ty e fun tk => ⟨.bl b, H, I.tok _, rfl, q⟩
  · cases (show u = Value.ref ea from ru)
    obtain ⟨p, _⟩ := (show ObjOk X.prog X.w H s.heap ea (excO ea C) from I.hok ea _ he)
    exact PySem.W.kia_one (My.kitx_exc ec.hg ec.hgg ec.hsb ec.hd ec.ha ec.hn ec.ht ec.hm) I.kIn p e (fun z => nomatch z) fun tk => ⟨.bl b, H, I.tok _, rfl, q⟩
end
/-- exceptions of a callee that never come -/
theorem passF {P : Program} {w : World} {base : Heap} {X : Cx} : Passes (CXe P w base) X E0 := fun _ _ _ _ _ _ _ h => by
  obtain ⟨_, _, _, _, _, _, _, _, _, q⟩ := h
  exact q.elim
section
variable {P : Program} {w : World} {K : PySem.W.Frag} {mg : Str → Option Value} {base : Heap}
/-- a def whose body may raise -/
theorem Fun.okE {x qual : Str} {st : Stmt} {f : Addr} {fd : FuncData} {N ps : List Str} {k : Nat} {sp : Sp} (F : Fun K x qual st f fd) (S : FnScope N ps (defScope st)) (len : ∀ vs H Q E, sp vs H Q E → vs.length = ps.length)
    (hbody : ∀ (cdv : Value) (A : Around) (outer : List Env) (s : Shared) (H : Hp) (vs : List V) (Q : VK) (E : XK), Room k (A.deeper (envOfC qual (defScope st) s.heap.objs.size f cdv)) → sp vs H Q E →
      ∃ t, PSs (cxOf (CXe P w base) P w K mg base N qual (defScope st) f cdv A outer s H E) (defBody st) t ∧ t { nx := fun _ H' => Q .non H', rt := Q } (start N vs) H) : FnOk P w K mg base (CXe P w base) (k + 1) f fd ps sp := by
  obtain ⟨oc, od, kV, doc, pm, an, cdv, ct, osl, rfl, lk, hcd⟩ := F.ex
  exact fn_of lk hcd S len fun A outer s H vs Q E hr hsp => hbody cdv A outer s H vs Q E hr hsp
/-- a def of the module, as it stands behind the top -/
def DefIn (K : PySem.W.Frag) (mg : Str → Option Value) (x : Str) (st : Stmt) (ps : List Str) : Prop := ∃ (f : Addr) (fd : FuncData), mg x = some (.ref f) ∧ Fun K x x st f fd ∧ Binds K fd ps []
theorem defIn_mk {h : Heap} {x : Str} {st : Stmt} {ps : List Str} {f : Addr} {oc : Value} {od an : Option Addr} {osl : Array (Option Value)} {kV doc pm cdv ct : Value} (X : K.In h) (G : h.Ns mainGlobals mg)
    (a : PySem.W.nsIn K mainGlobals x = some (some (.ref f))) (l : K.lookup f = some ⟨oc, od, .func (PySem.W.fnOf x x (defArgs st) (defBody st) (defScope st) .none kV doc pm an cdv ct), osl⟩)
    (c : PySem.W.codeIn K cdv x = true) (k : PySem.W.keepIn K (.ref f) = true)
    (b : ∀ (kV doc pm : Value) (an : Option Addr) (cdv ct : Value) (us : List Value), us.length = ps.length → bindArgs (PySem.W.fnOf x x (defArgs st) (defBody st) (defScope st) .none kV doc pm an cdv ct) ⟨us, []⟩ = pure (ps.zip us)) : DefIn K mg x st ps :=
  ⟨f, _, PySem.W.mg_of X G a, fun_mk l c k, (fun_mk l c k).binds b⟩
/-- .. keeping its promise -/
def Ok (P : Program) (w : World) (K : PySem.W.Frag) (mg : Str → Option Value) (base : Heap) (CX : CXT) (k : Nat) (x : Str) (ps : List Str) (sp : Sp) : Prop :=
  ∃ (f : Addr) (fd : FuncData), mg x = some (.ref f) ∧ PySem.W.keepIn K (.ref f) = true ∧ Binds K fd ps [] ∧ FnOk P w K mg base CX k f fd ps sp
theorem Ok.mono {CX : CXT} {j k : Nat} {x : Str} {ps : List Str} {sp : Sp} (o : Ok P w K mg base CX j x ps sp) (h : j ≤ k) : Ok P w K mg base CX k x ps sp := by
  obtain ⟨f, fd, a, b, c, d⟩ := o
  exact ⟨f, fd, a, b, c, d.mono h⟩
end
/-- f(e, ..) by a def's promise -/
theorem pe_ok {X : Cx} {CX : CXT} {k : Nat} {x : Str} {ps : List Str} {sp : Sp} {E : XK} {p pos : Pos} {e : Expr} {es : List Expr} {t : TA} (o : Ok X.prog X.w X.K X.mg X.base CX k x ps sp) (hr : Room k X.A) (hg : Gl X x) (hx : Passes CX X E) (ha : PA X (e :: es) t)
    (hdb : (x == ("__debug__" : Str)) = false := by decide) (he : starEach (e :: es) X.env = (false, eval e X.env) :: starEach es X.env := by rfl) (hpl : (backTo pos (starEach es X.env)).any (·.1) = false := by rfl) :
    PE X (.Call (.Name x p) (e :: es) [] pos) (tCall sp [] E t) := by
  obtain ⟨f, fd, a, b, c, d⟩ := o
  exact pe_call d hr hg a b c .nil hx ha hdb he hpl
end L2

namespace L2
open PySem PySem.Spec PyProof.Rows
theorem ints_of : ∀ {ns : List Int} {us : List Value}, Vals (ns.map V.int) us → IntsAre us ns
  | [], _, .nil => .nil
  | n :: ns, _, .cons ⟨t, e⟩ r => by subst e; exact .cons n t (ints_of r)
section
variable {X : Cx}
def rEqI (K : PySem.W.Frag) : R2 := fun x y H Q => ∃ (p q : Addr) (ns ms : List Int), x = .ref p ∧ y = .ref q ∧ SqL K H p (ns.map V.int) ∧ SqL K H q (ms.map V.int) ∧ Q (.bl (decide (ns = ms))) H
end
/-- one int in; two ints in -/
def sp1 (g : Int → V) : Sp := fun vs H Q _ => ∃ n, vs = [.int n] ∧ Q (g n) H
def sp2 (C : Int → Int → Prop) (g : Int → Int → Int) : Sp := fun vs H Q _ => ∃ a b, vs = [.int a, .int b] ∧ C a b ∧ Q (.int (g a b)) H
theorem len1 {g : Int → V} : ∀ vs H Q E, sp1 g vs H Q E → vs.length = 1 := fun vs H Q E ⟨n, e, _⟩ => by rw [e]; rfl
end L2
namespace L2
open PySem PySem.Spec PyProof.Rows
theorem pe_gref {X : Cx} {x : Str} {a : Addr} {pos : Pos} (hm : X.mg x = some (.ref a)) (hg : Gl X x := by rfl) (hd : (x == ("__debug__" : Str)) = false := by decide) : PE X (.Name x pos) (tC (.ref a)) := pe_glob hg hm (v := .ref a) rfl hd
theorem pe_bty {X : Cx} {x : Str} {n : String} {pos : Pos} (hm : X.mg x = none) (hv : bootBuiltins x = some (.type n)) (hg : Gl X x := by rfl) (hn : x ≠ "__name__" := by decide) (hd : (x == ("__debug__" : Str)) = false := by decide) : PE X (.Name x pos) (tC (.ty n)) := pe_bltn hg hm hv (v := .ty n) rfl hn hd
end L2

namespace L2
open PySem PySem.Spec PyProof.Rows
/-- the block of a comprehension in X: entered at s3, its iterator's records at fp -/
abbrev Cx.comp (X : Cx) (scope : Scope) (cl : List (Str × Addr)) (NY : List Str) (s3 : Shared) (H3 : Hp) (fp : List Addr) : Cx :=
  { X with N := NY, s₀ := s3, H₀ := H3, env := compEnvC scope cl s3.heap.objs.size X.env, outer := X.stack, ex := fp, fn := fun _ => false, pn := [], xe := fun _ _ => False }
/-- what the block may see of X's names -/
structure Sees (X : Cx) (scope : Scope) (cl : List (Str × Addr)) : Prop where
  kind : scope.kind = .function
  clos : closureFor scope X.env = pure cl
  nocell : ∀ y ∈ scope.names, y.2 ≠ .cell
  names : ∀ y ∈ scope.names, y.2 = .local → scope.names.lookup y.1 = some .local
  sub : ∀ x c, cl.lookup x = some c → X.env.cells.lookup x = some c
  has : ∀ x, ((compEnvC scope cl 0 X.env).kindOf x = some .cell ∨ (compEnvC scope cl 0 X.env).kindOf x = some .free) → ∃ c, cl.lookup x = some c
section
variable {X : Cx} {pins : List (Addr × Obj)} {σ : St} {H3 : Hp} {s3 : Shared} {scope : Scope} {cl : List (Str × Addr)} {NY : List Str} {fp : List Addr}
theorem comp_ok (I : Inv X pins σ H3 s3) (S : Sees X scope cl) (hfp : ∀ b ∈ fp, FpOk X pins H3 b) (hob : ∀ b ∈ fp, ∃ o, s3.heap.get? b = some o) : (X.comp scope cl NY s3 H3 fp).Ok where
  mod := I.ok.mod
  kind := S.kind
  glob := I.ok.glob
  blt := I.ok.blt
  above := Nat.le_refl _
  inj := fun x y c a b => I.ok.inj x y c (S.sub _ _ a) (S.sub _ _ b)
  has := fun x h => S.has x h
  cab := fun _ _ h => nomatch h
  hd := I.ok.hd
  frames := I.ok.frames
  stk := .inl rfl
  exf := fun b hb => ⟨fun z => by
    obtain ⟨o, q⟩ := hob b hb
    exact absurd (Heap.lt_size q) (by rw [z]; exact Nat.lt_irrefl _), fun x c q => (hfp b hb).2.2.2.2.1 x c (S.sub _ _ q)⟩
  bs := I.bs
  bsz := Nat.le_trans I.ok.bsz I.sz
  noex := fun b o q hb => by
    rcases (hfp b hb).2.2.2.1 with z | z
    · exact I.ok.noex b o q z
    · exact absurd (Nat.lt_of_lt_of_le (Heap.lt_size q) (Nat.le_trans I.ok.bsz z)) (Nat.lt_irrefl _)
  exfs := fun b hb z => by
    rcases List.mem_cons.mp (I.stkSub b z) with y | y
    · exact (hfp b hb).2.1 y
    · exact (hfp b hb).2.2.1 y
  funs := I.stack
  frf := I.stkFree
theorem comp_inv {h1 : Heap} {t : Nat} {σY : St} (I : Inv X pins σ H3 s3) (S : Sees X scope cl) (hfp : ∀ b ∈ fp, FpOk X pins H3 b) (hob : ∀ b ∈ fp, ∃ o, s3.heap.get? b = some o)
    (hn : h1.Ns s3.heap.objs.size fun _ => none) (hk : ∀ b o, s3.heap.get? b = some o → h1.get? b = some o) (hl : σY.length = NY.length)
    (hσ : ∀ (i : Nat) (x : Str) (v : V), NY[i]? = some x → σY[i]? = some (some v) → ∃ c u, (((compEnvC scope cl 0 X.env).kindOf x = some .cell ∨ (compEnvC scope cl 0 X.env).kindOf x = some .free)) ∧ cl.lookup x = some c ∧ RelV v u ∧ s3.heap.IsCell c (some u)) :
    Inv (X.comp scope cl NY s3 H3 fp) [] σY H3 { s3 with heap := h1, toks := t } where
  ok := comp_ok I S hfp hob
  os := rfl
  bare := I.bare
  base := Un.kept hk
  loc := ⟨_, hn, fun i x v e1 e2 _ => by
    obtain ⟨c, u, k, q, r, z⟩ := hσ i x v e1 e2
    obtain ⟨o, z1, z2⟩ := z
    exact ⟨u, r, .inr ⟨k, c, q, o, hk _ _ z1, z2⟩⟩⟩
  cell := fun x c q => by
    obtain ⟨v, o, z1, z2⟩ := I.cell x c (S.sub _ _ q)
    exact ⟨v, o, hk _ _ z1, z2⟩
  free := I.hok.fresh (Nat.le_refl _)
  freeC := fun x c q => I.freeC x c (S.sub _ _ q)
  pin := fun p hp => absurd hp (by simp)
  hok := I.hok.kept hk
  len := hl
/-- behind the block -/
theorem comp_back {Y : List (Addr × Obj)} {σY : St} {H' : Hp} {s' : Shared} {h' : Heap} (I : Inv X pins σ H3 s3) (hfp : ∀ b ∈ fp, FpOk X pins H3 b) (J : Inv (X.comp scope cl NY s3 H3 fp) Y σY H' s') (hs : Heap.SameBut s3.heap.objs.size s'.heap h') :
    Inv X pins σ H' { s' with heap := h' } := by
  have ne : ∀ b o, s3.heap.get? b = some o → b ≠ s3.heap.objs.size := fun b o q => Nat.ne_of_lt (Heap.lt_size q)
  have B := J.base
  refine I.call' (s' := { s' with heap := h' }) (ch := fp) J.os ⟨fun b o q n hb hx => ?_, fun b o q n hb hx => ?_, B.free, fun b o q hx => ?_, B.tups, B.frzs, B.tbls⟩ (fun b o q => ?_) J.bare fun b hb => ?_
  · exact (hs.2 b (ne b o q)).trans (B.keep b o q n hb hx)
  · obtain ⟨sl, z⟩ := B.slot b o q n hb hx
    exact ⟨sl, (hs.2 b (ne b o q)).trans z⟩
  · obtain ⟨o', z⟩ := B.there b o q hx
    exact ⟨o', (hs.2 b (ne b o q)).trans z⟩
  · have hf : H' s3.heap.objs.size = none := J.free
    refine (J.hok b o q).stay (fun c v hc r => (hs.2 c ?_).trans r) (fun _ z => z) fun _ _ z => z
    rintro rfl
    rcases hc with z | z
    · rw [← z, hf] at q; cases q
    · rw [hf] at z; cases z
  · obtain ⟨_, f2, _, f4, f5, f6⟩ := hfp b hb
    exact ⟨f4, f2, f5, f6⟩
end
end L2

namespace L2
open PySem PySem.Spec PyProof.Rows
section
variable {prog : Program} {w : World} {A : Around} {R : Result → Shared → Prop} {s : Shared}
/-- the block's loop, no exception -/
theorem comp_loop {elt target iter : Expr} {scope : Scope} {pos : Pos} {it acc : Value} {env : Env} (I : Nat → Shared → Prop)
    (turn : ∀ n s, I n s → wpAny (model prog w) A (pyNext it) (fun r s₁ => match r with
      | none => R (.ok .next) s₁
      | some v => wpAny (model prog w) A (letOwnedTupleGo target it v) (fun _ s₂ => wpAny (model prog w) A (assign target env v) (fun _ s₃ => wpAny (model prog w) A (eval elt env) (fun x s₄ =>
          wpAny (model prog w) A (call (.builtin "list.append") [acc, x]) (fun _ s₅ => ∃ m, m < n ∧ I m s₅) (fun _ _ => False) s₄) (fun _ _ => False) s₃) (fun _ _ => False) s₂) (fun _ _ => False) s₁) (fun _ _ => False) s)
    (n : Nat) (h : I n s) : codeAny (model prog w) A (.compLoop (.ListComp elt [⟨target, iter, [], 0⟩] scope pos) 0 it acc env) R s := by
  refine codeAny_loop rfl I (fun n s hI => ?_) n h
  show wpAny _ _ ((compTurn (.ListComp elt [⟨target, iter, [], 0⟩] scope pos) 0 it acc env).onRaise (fun x => do noteFrame x env; theTreesLotGoes x)) _ _ s
  refine wpAny_noted ?_
  rw [compTurn_list1]
  refine wpAny_bind (wpAny_standAt (wpAny_bind (wpAny_mono (turn n s hI) (fun r s₁ h₁ => ?_) fun _ _ z => z.elim)))
  cases r with
  | none => exact wpAny_pure h₁
  | some v =>
    refine wpAny_bind (wpAny_mono h₁ (fun _ s₂ h₂ => ?_) fun _ _ z => z.elim)
    refine wpAny_bind (wpAny_mono h₂ (fun _ s₃ h₃ => ?_) fun _ _ z => z.elim)
    refine wpAny_bind (wpAny_bind (wpAny_mono h₃ (fun x s₄ h₄ => ?_) fun _ _ z => z.elim))
    exact wpAny_bind (wpAny_mono h₄ (fun _ s₅ h₅ => wpAny_pure (wpAny_pure ⟨rfl, h₅⟩)) fun _ _ z => z.elim)
end
/-- the walk of a comprehension into the list at D -/
def CompW (J : It) (g : TG) (te : TE) (σY : St) (H1 : Hp) (D : Addr) (Q : VK) : Prop := ∃ W : Nat → Nat → St → Hp → Prop, (∃ m, W 0 m σY H1) ∧ ∀ i m σ' H', W i m σ' H' →
  (J.stop i H' ∧ Q (.ref D) H') ∨ (J.go i H' ∧ ∃ N : St → Hp → Prop, (∀ σ2 H2, N σ2 H2 → ∃ m', m' < m ∧ W (i + 1) m' σ2 H2) ∧
    ∀ x H2, J.yld i H' x H2 → g x σ' H2 fun σ3 H3 => te σ3 H3 fun v H4 => ∃ xs, H4 D = some (.lst xs) ∧ xs.length < sizeLine ∧ N σ3 (upd H4 D (.lst (xs ++ [v]))))
/-- [e for x in it]: σY the block's names at its entry -/
def tComp (wi : TI) (g : TG) (te : TE) (σ0 : St → Hp → St → Prop) : TE := fun σ H Q => wi σ H fun J H1 => ∃ σY, σ0 σ H1 σY ∧ ∀ D, H1 D = none → CompW J g te σY (upd H1 D (.lst [])) D Q
section
variable {X : Cx} {tg : Expr}
/-- behind the walk: the list at D, the block's names at C -/
structure CompEnd (X : Cx) (pins : List (Addr × Obj)) (σ : St) (H5 : Hp) (s6 : Shared) (C : Addr) : Prop where
  ns : ∃ m, s6.heap.Ns C m
  hn : H5 C = none
  hL : C ≠ X.env.locals
  h1 : X.s₀.heap.objs.size ≤ C
  h2 : ∀ x c, X.env.cells.lookup x = some c → c ≠ C
  h3 : ∀ p ∈ X.pn ++ pins, p.1 ≠ C
  inv : ∀ h', Heap.SameBut C s6.heap h' → Inv X pins σ H5 { s6 with heap := h' }
theorem comp_core {iter elt : Expr} {scope : Scope} {pos pos' : Pos} {cl : List (Str × Addr)} {NY : List Str} {wi : TI} {g : TG} {te : TE} {σ0 : St → Hp → St → Prop} (hc : X.calm = true) (S : Sees X scope cl) (hi : PI X tg iter wi)
    (hY : ∀ (s3 : Shared) (H3 : Hp) (fp : List Addr), PG (X.comp scope cl NY s3 H3 fp) tg g ∧ PE (X.comp scope cl NY s3 H3 fp) elt te)
    (h0 : ∀ (pins : List (Addr × Obj)) (σ : St) (H : Hp) (s3 : Shared) (σY : St), Inv X pins σ H s3 → σ0 σ H σY → σY.length = NY.length ∧ ∀ (i : Nat) (x : Str) (v : V), NY[i]? = some x → σY[i]? = some (some v) →
      ∃ c u, (((compEnvC scope cl 0 X.env).kindOf x = some .cell ∨ (compEnvC scope cl 0 X.env).kindOf x = some .free)) ∧ cl.lookup x = some c ∧ RelV v u ∧ s3.heap.IsCell c (some u))
    (hs : ∀ x, foldedSetIterable iter X.env x = pure x) {use : Option (Value → Sem Unit)} {R : Value → Shared → Prop} {pins : List (Addr × Obj)} {s : Shared} {σ : St} {H : Hp} {Q : VK} (I : Inv X pins σ H s) (h : tComp wi g te σ0 σ H Q)
    (fin : ∀ (C D : Addr) (H5 : Hp) (s6 : Shared), CompEnd X pins σ H5 s6 C → Q (.ref D) H5 → compPost (model X.prog X.w) X.A X.xe use R (.ref D) C (.ok .next) s6) :
    wpAny (model X.prog X.w) X.A (comprehension (.ListComp elt [⟨tg, iter, [], 0⟩] scope pos) scope X.env pos' (newList []) (firstAsync [⟨tg, iter, [], 0⟩]) (firstIter [⟨tg, iter, [], 0⟩] X.env) use) R X.xe s := by
  refine wpAny_comprehension_free rfl hs S.clos S.kind S.names (thn (hi pins s σ H _ I h) fun v s1 h1 => thn h1 fun itv s2 h2 => ?_)
  obtain ⟨it, fp, tn, J, H2, e, I2, T, st2, f2, σY, hσ, hW⟩ := h2
  subst e
  refine wpAny_newObj_type ?_
  -- the new list
  have I3 : Inv X pins σ (upd H2 s2.heap.objs.size (.lst [])) { s2 with heap := s2.heap.push { cls := .type "list", data := .seq ([] : List Value).toArray } } := I2.lnew (t' := s2.toks) (its := []) .nil (Nat.zero_le _)
  obtain ⟨W, ⟨m0, w0⟩, turn⟩ := hW s2.heap.objs.size (I2.hok.fresh (Nat.le_refl _))
  have ob2 := T.obj _ _ st2
  have hfp : ∀ b ∈ fp, FpOk X pins (upd H2 s2.heap.objs.size (.lst [])) b := fun b hb => by
    obtain ⟨o, q, _⟩ := ob2 b hb
    exact ⟨by rw [upd_ne (Nat.ne_of_lt (Heap.lt_size q))]; exact (f2 b hb).1, (f2 b hb).2⟩
  have hob : ∀ b ∈ fp, ∃ o, (s2.heap.push { cls := .type "list", data := .seq ([] : List Value).toArray }).get? b = some o := fun b hb => by
    obtain ⟨o, q, _⟩ := ob2 b hb
    exact ⟨o, Heap.get?_push_of_some _ q⟩
  refine wpAny_newFunctionEnv S.nocell (fun y hy => absurd hy (by simp)) (fun h1 hn1 hs1 => ?_) S.kind
  obtain ⟨hl, hY0⟩ := h0 pins σ H2 s2 σY I2 hσ
  have k23 : ∀ b o, s2.heap.get? b = some o → (s2.heap.push { cls := .type "list", data := .seq ([] : List Value).toArray }).get? b = some o := fun b o q => Heap.get?_push_of_some _ q
  have k34 : ∀ b o, (s2.heap.push { cls := .type "list", data := .seq ([] : List Value).toArray }).get? b = some o → h1.get? b = some o := fun b o q => (hs1.2 b (Nat.ne_of_lt (Heap.lt_size q))).trans (Heap.get?_push_of_some _ q)
  have I4 := comp_inv (scope := scope) (cl := cl) (NY := NY) (fp := fp) (h1 := h1) (t := s2.toks) (σY := σY) I3 S hfp hob hn1 k34 hl fun i x v e1 e2 => by
    obtain ⟨c, u, k, q, r, o, z1, z2⟩ := hY0 i x v e1 e2
    exact ⟨c, u, k, q, r, o, k23 _ _ z1, z2⟩
  have st4 : tn 0 h1 := T.keep _ _ _ st2 fun b hb o q => k34 _ _ (k23 _ _ q)
  have fr4 : ∀ b ∈ fp, (upd H2 s2.heap.objs.size (.lst [])) b = none := fun b hb => (hfp b hb).1
  obtain ⟨hg, he⟩ := hY { s2 with heap := s2.heap.push { cls := .type "list", data := .seq ([] : List Value).toArray } } (upd H2 s2.heap.objs.size (.lst [])) fp
  have okY := I4.ok
  have statY : ∀ {H' : Hp}, (∀ b ∈ fp, H' b = none) → ∀ b ∈ fp, FpOk (X.comp scope cl NY { s2 with heap := s2.heap.push { cls := .type "list", data := .seq ([] : List Value).toArray } } (upd H2 s2.heap.objs.size (.lst [])) fp) [] H' b :=
    fun hn b hb => ⟨hn b hb, (okY.exf b hb).1, okY.exfs b hb, .inl hb, (okY.exf b hb).2, fun p hp => absurd hp (by simp)⟩
  have loop : codeAny (model X.prog X.w) X.A (.compLoop (.ListComp elt [⟨tg, iter, [], 0⟩] scope pos) 0 (.ref it) (.ref s2.heap.objs.size) (compEnvC scope cl (s2.heap.push { cls := .type "list", data := .seq ([] : List Value).toArray }).objs.size X.env))
      (compPost (model X.prog X.w) X.A X.xe use R (.ref s2.heap.objs.size) (s2.heap.push { cls := .type "list", data := .seq ([] : List Value).toArray }).objs.size) { s2 with heap := h1, toks := s2.toks } := by
    refine comp_loop (fun n s' => ∃ i σ' H', Inv (X.comp scope cl NY { s2 with heap := s2.heap.push { cls := .type "list", data := .seq ([] : List Value).toArray } } (upd H2 s2.heap.objs.size (.lst [])) fp) [] σ' H' s' ∧ tn i s'.heap ∧ (∀ b ∈ fp, H' b = none) ∧ W i n σ' H') ?_ m0 ⟨0, σY, _, I4, st4, fr4, w0⟩
    rintro n s5 ⟨i, σ5, H5, I5, st5, fr5, w5⟩
    rcases turn i n σ5 H5 w5 with ⟨stop, q⟩ | ⟨go, N, hN, step⟩
    · refine thn (T.done (X.comp scope cl NY { s2 with heap := s2.heap.push { cls := .type "list", data := .seq ([] : List Value).toArray } } (upd H2 s2.heap.objs.size (.lst [])) fp) rfl rfl rfl hc i [] s5 σ5 H5 _ I5 (statY fr5) st5 stop) fun r s6 ⟨hr, I6⟩ => ?_
      subst hr
      obtain ⟨m, hm, _⟩ := I6.loc
      refine fin _ _ H5 s6 ⟨⟨m, hm⟩, I6.free, Ne.symm (Nat.ne_of_lt I3.lt), I3.sz, fun x c z => ?_, fun p hp => ?_, fun h' hs' => comp_back I3 hfp I6 hs'⟩ q
      · obtain ⟨_, o, z1, _⟩ := I3.cell x c z
        exact Nat.ne_of_lt (Heap.lt_size z1)
      · exact Nat.ne_of_lt (Heap.lt_size (I3.pin p hp).1)
    · refine thn (T.item (X.comp scope cl NY { s2 with heap := s2.heap.push { cls := .type "list", data := .seq ([] : List Value).toArray } } (upd H2 s2.heap.objs.size (.lst [])) fp) rfl rfl rfl hc i [] s5 σ5 H5 _ I5 (statY fr5) st5 go) fun r s6 ⟨u, hr, h6⟩ => ?_
      subst hr
      refine thn h6 fun _ s7 ⟨x, H7, I7, r7, y7, st7, fr7⟩ => ?_
      have I7' := I7.pinned (statY fr7) (T.obj _ _ st7)
      refine thn (hg _ s7 σ5 H7 x u _ I7' r7 (step x H7 y7)) fun _ s8 ⟨σ8, H8, I8, q8⟩ => ?_
      refine thn (he _ s8 σ8 H8 _ I8 q8) fun z s9 ⟨v9, H9, I9, r9, xs, hx9, hz9, n9⟩ => ?_
      refine thn (mt_append _ s9 σ8 H9 (.ref s2.heap.objs.size) [v9] (.ref s2.heap.objs.size) [z] (fun _ H' => H' = upd H9 s2.heap.objs.size (.lst (xs ++ [v9]))) I9 rfl (.cons r9 .nil) ⟨s2.heap.objs.size, xs, v9, rfl, rfl, hx9, hz9, rfl⟩) fun y s10 ⟨v10, H10, I10, _, e10⟩ => ?_
      subst e10
      obtain ⟨m', hm, w10⟩ := hN _ _ n9
      refine ⟨m', hm, i + 1, σ8, _, I10.unpinned, T.keep _ _ _ st7 fun b hb o q => (I10.pin (b, o) (List.mem_append_right _ (List.mem_append_right _ (mem_pinsAt hb q)))).1, fun b hb => ?_, w10⟩
      obtain ⟨o, q, d⟩ := T.obj _ _ st7 b hb
      exact (I10.pin (b, o) (List.mem_append_right _ (List.mem_append_right _ (mem_pinsAt hb q)))).2.1
  exact codeAny_compStart_list loop (T.self _ 0 _ _ _ st4 loop)
theorem pe_comp {iter elt : Expr} {scope : Scope} {pos : Pos} {cl : List (Str × Addr)} {NY : List Str} {wi : TI} {g : TG} {te : TE} {σ0 : St → Hp → St → Prop} (hc : X.calm = true) (S : Sees X scope cl) (hi : PI X tg iter wi)
    (hY : ∀ (s3 : Shared) (H3 : Hp) (fp : List Addr), PG (X.comp scope cl NY s3 H3 fp) tg g ∧ PE (X.comp scope cl NY s3 H3 fp) elt te)
    (h0 : ∀ (pins : List (Addr × Obj)) (σ : St) (H : Hp) (s3 : Shared) (σY : St), Inv X pins σ H s3 → σ0 σ H σY → σY.length = NY.length ∧ ∀ (i : Nat) (x : Str) (v : V), NY[i]? = some x → σY[i]? = some (some v) →
      ∃ c u, (((compEnvC scope cl 0 X.env).kindOf x = some .cell ∨ (compEnvC scope cl 0 X.env).kindOf x = some .free)) ∧ cl.lookup x = some c ∧ RelV v u ∧ s3.heap.IsCell c (some u))
    (hs : ∀ x, foldedSetIterable iter X.env x = pure x := by intro _; rfl) :
    PE X (.ListComp elt [⟨tg, iter, [], 0⟩] scope pos) (tComp wi g te σ0) := by
  intro pins s σ H Q I h
  rw [eval_ListComp]
  refine comp_core (use := none) hc S hi hY h0 hs I h fun C D H5 s6 e q => ?_
  obtain ⟨m, hm⟩ := e.ns
  exact ⟨m, hm, fun h' hs' => ⟨.ref D, H5, e.inv h' hs', rfl, q⟩⟩
/-- y = [e for x in it], y a plain local name -/
theorem ps_comp {iter elt : Expr} {scope : Scope} {pos pos' spos : Pos} {cl : List (Str × Addr)} {NY : List Str} {wi : TI} {g : TG} {te : TE} {σ0 : St → Hp → St → Prop} {i : Nat} {y : Str} (hc : X.calm = true) (S : ∀ {pins σ H s}, Inv X pins σ H s → Sees X scope cl) (hi : PI X tg iter wi)
    (hY : ∀ (s3 : Shared) (H3 : Hp) (fp : List Addr), PG (X.comp scope cl NY s3 H3 fp) tg g ∧ PE (X.comp scope cl NY s3 H3 fp) elt te)
    (h0 : ∀ (pins : List (Addr × Obj)) (σ : St) (H : Hp) (s3 : Shared) (σY : St), Inv X pins σ H s3 → σ0 σ H σY → σY.length = NY.length ∧ ∀ (i : Nat) (x : Str) (v : V), NY[i]? = some x → σY[i]? = some (some v) →
      ∃ c u, (((compEnvC scope cl 0 X.env).kindOf x = some .cell ∨ (compEnvC scope cl 0 X.env).kindOf x = some .free)) ∧ cl.lookup x = some c ∧ RelV v u ∧ s3.heap.IsCell c (some u))
    (hs : ∀ x, foldedSetIterable iter X.env x = pure x) (hN : X.N.Nodup) (hi' : X.N[i]? = some y) (hx : Loc X.env.scope y) (hf : X.fn y = true ∨ X.env.scope.names.lookup y = some .local)
    (hw : swapsWith (.ListComp elt [⟨tg, iter, [], 0⟩] scope pos) (some (.Name y pos')) spos.line X.env = pure true) : PS X (.Assign [.Name y pos'] (.ListComp elt [⟨tg, iter, [], 0⟩] scope pos) spos) (tAsg (tComp wi g te σ0) (gName i)) := by
  intro pins s σ H D I h
  rw [exec_Assign_Name_used _ _ _ _ hw, arm_evalThenUse_ListComp]
  refine wpAny_bind (wpAny_standAt (wpAny_bind (wpAny_bind (wpAny_mono (comp_core (use := some (assign (.Name y pos') X.env)) (R := fun _ s' => SP X pins D .next s') hc (S I) hi hY h0 hs I h fun C L H5 s6 e q => ?_) (fun _ s' z => wpAny_pure (wpAny_pure z)) fun _ _ z => z))))
  obtain ⟨m, hm⟩ := e.ns
  have I6 : Inv X pins σ H5 s6 := e.inv s6.heap ⟨rfl, fun _ _ => rfl⟩
  refine wpAny_assign_Name (store_ok2 I6 hN hi' hx (v := .ref L) rfl (fun s' I' ⟨a, sb, ha⟩ => ?_) hf)
  have ne : C ≠ a := by
    rintro rfl
    rcases ha with z | z
    · exact e.hL z
    · exact e.h2 _ _ z rfl
  refine ⟨m, ?_, fun h' hs' => ?_⟩
  · obtain ⟨o, es, ep, z, r⟩ := hm
    exact ⟨o, es, ep, (sb.2 _ ne).trans z, r⟩
  · exact ⟨_, H5, I'.turned (t' := s'.toks) (it := C) (fun b o nb z => (hs'.2 b nb).trans z) e.hn e.hL (.inr e.h1) e.h2 e.h3, q⟩
end
end L2

namespace L2
open PySem PySem.Spec PyProof.Rows
/-- .. over a range -/
theorem comp_range {lo : Int} {n : Nat} {D : Addr} {g : TG} {te : TE} {σY : St} {H1 : Hp} {Q : VK} (Pv : Nat → St → Hp → Prop) (h0 : Pv 0 σY H1)
    (hs : ∀ i σ H, i < n → Pv i σ H → g (.int (lo + i)) σ H fun σ3 H3 => te σ3 H3 fun v H4 => ∃ ys, H4 D = some (.lst ys) ∧ ys.length < sizeLine ∧ Pv (i + 1) σ3 (upd H4 D (.lst (ys ++ [v])))) (hd : ∀ σ H, Pv n σ H → Q (.ref D) H) :
    CompW (Itr lo n) g te σY H1 D Q := by
  refine ⟨fun i m σ H => m = n - i ∧ i ≤ n ∧ Pv i σ H, ⟨n, by simp, Nat.zero_le _, h0⟩, ?_⟩
  rintro i m σ H ⟨rfl, hi, p⟩
  by_cases hlt : i < n
  · refine .inr ⟨hlt, Pv (i + 1), fun σ' H' p' => ⟨n - (i + 1), by omega, rfl, hlt, p'⟩, fun x H' y => ?_⟩
    obtain ⟨e, y⟩ := y
    subst e y
    exact hs i σ _ hlt p
  · have e : i = n := by omega
    subst e
    exact .inl ⟨Nat.le_refl _, hd σ H p⟩
end L2

namespace L2
open PySem PySem.Spec PyProof.Rows
/-- the cells that a block takes along -/
def clGo (env : Env) : List (Str × NameKind) → List (Str × Addr) → List (Str × Addr)
  | [], cs => cs
  | y :: r, cs => clGo env r (if y.2 == .free then (y.1, (env.cells.lookup y.1).getD 0) :: cs else cs)
abbrev clOf (env : Env) (scope : Scope) : List (Str × Addr) := clGo env scope.names []
theorem closure_of {scope : Scope} {env : Env} (h : ∀ y ∈ scope.names, y.2 = .free → ∃ c, env.cells.lookup y.1 = some c) : closureFor scope env = pure (clOf env scope) := by
  rw [closureFor.eq_1]
  suffices q : ∀ (names : List (Str × NameKind)) (cs : List (Str × Addr)), (∀ y ∈ names, y.2 = .free → ∃ c, env.cells.lookup y.1 = some c) →
      (do
        let s ← forIn names cs fun x __s =>
          have cs := __s
          match x with
          | (name, kind) =>
            if (kind == NameKind.free) = true then do
              let l ← cellOf env name
              have cs : List (Str × Addr) := (name, l) :: cs
              pure (ForInStep.yield cs)
            else pure (ForInStep.yield cs)
        pure s : Sem (List (Str × Addr))) = pure (clGo env names cs) from (congrArg (fun (m : Sem (List (Str × Addr))) => m >>= fun s => (pure s : Sem (List (Str × Addr)))) (q scope.names [] h)).trans rfl
  intro names
  induction names with
  | nil => intro cs _; rfl
  | cons y r ih =>
    intro cs h
    obtain ⟨n, k⟩ := y
    have hr := fun y hy => h y (List.mem_cons_of_mem _ hy)
    rw [List.forIn_cons]
    show _ = pure (clGo env r (if k == .free then (n, (env.cells.lookup n).getD 0) :: cs else cs))
    by_cases e : k = .free
    · subst e
      obtain ⟨c, hc⟩ := h (n, .free) List.mem_cons_self rfl
      have e1 : cellOf env n = pure c := by unfold cellOf; rw [show env.cells.lookup n = some c from hc]
      simp only [e1, show env.cells.lookup n = some c from hc, Option.getD_some, beq_self_eq_true, if_true]
      exact ih _ hr
    · have e0 : (k == NameKind.free) = false := by simp [e]
      simp only [e0, Bool.false_eq_true, if_false]
      exact ih _ hr
theorem clGo_sub {env : Env} {x : Str} {c : Addr} : ∀ {names : List (Str × NameKind)} {cs : List (Str × Addr)}, (∀ y ∈ names, y.2 = .free → ∃ c, env.cells.lookup y.1 = some c) → (∀ x c, cs.lookup x = some c → env.cells.lookup x = some c) → (clGo env names cs).lookup x = some c → env.cells.lookup x = some c
  | [], cs, _, hc, h => hc _ _ h
  | (n, k) :: r, cs, hn, hc, h => by
    refine clGo_sub (fun y hy => hn y (List.mem_cons_of_mem _ hy)) (fun x c q => ?_) h
    by_cases e : k = .free
    · subst e
      obtain ⟨c', hc'⟩ := hn (n, .free) List.mem_cons_self rfl
      simp only [beq_self_eq_true, if_true, show env.cells.lookup n = some c' from hc', Option.getD_some, List.lookup_cons] at q
      by_cases z : x = n
      · subst z; simp at q; rw [← q]; exact hc'
      · have z' : (x == n) = false := by simp [z]
        rw [z'] at q
        exact hc _ _ q
    · have e0 : (k == NameKind.free) = false := by simp [e]
      rw [e0] at q
      exact hc _ _ q
theorem clGo_keep {env : Env} {x : Str} : ∀ {names : List (Str × NameKind)} {cs : List (Str × Addr)}, (∃ c, cs.lookup x = some c) → ∃ c, (clGo env names cs).lookup x = some c
  | [], _, h => h
  | (n, k) :: r, cs, h => by
    refine clGo_keep (names := r) ?_
    by_cases e : (k == NameKind.free) = true
    · simp only [e, if_true, List.lookup_cons]
      cases hx : x == n with
      | true => exact ⟨_, rfl⟩
      | false => exact h
    · simp only [e, if_false]; exact h
theorem clGo_has {env : Env} {x : Str} : ∀ {names : List (Str × NameKind)} {cs : List (Str × Addr)}, (x, NameKind.free) ∈ names → ∃ c, (clGo env names cs).lookup x = some c
  | (n, k) :: r, cs, h => by
    rcases List.mem_cons.mp h with e | e
    · cases e
      refine clGo_keep (names := r) ⟨(env.cells.lookup x).getD 0, ?_⟩
      simp
    · show ∃ c, (clGo env r _).lookup x = some c
      exact clGo_has e
/-- what a block asks of its own names and of those around it -/
def seesOk (X : Cx) (scope : Scope) : Bool :=
  (match scope.kind with | .function => true | _ => false) && scope.names.all fun y => match y.2 with
    | .cell => false
    | .free => (match X.env.kindOf y.1 with | some .cell => true | some .free => true | _ => false)
    | .local => (match scope.names.lookup y.1 with | some .local => true | _ => false)
    | _ => true
theorem sees_of {X : Cx} {scope : Scope} (ok : X.Ok) (h : seesOk X scope = true) : Sees X scope (clOf X.env scope) := by
  unfold seesOk at h
  rw [Bool.and_eq_true, List.all_eq_true] at h
  obtain ⟨hk, hn⟩ := h
  have fr : ∀ y ∈ scope.names, y.2 = .free → ∃ c, X.env.cells.lookup y.1 = some c := fun y hy e => by
    have q := hn y hy
    rw [e] at q
    refine ok.has y.1 ?_
    revert q
    dsimp only
    split
    · rename_i z; intro _; exact .inl z
    · rename_i z; intro _; exact .inr z
    · intro q; cases q
  refine ⟨?_, closure_of fr, fun y hy e => ?_, fun y hy e => ?_, fun x c q => clGo_sub fr (fun _ _ z => by cases z) q, fun x q => ?_⟩
  · revert hk
    cases scope.kind <;> simp
  · have q := hn y hy
    rw [e] at q
    exact Bool.false_ne_true q
  · have q := hn y hy
    rw [e] at q
    revert q
    dsimp only
    split
    · rename_i z; intro _; exact z
    · intro q; cases q
  · have key : ∀ k, (compEnvC scope (clOf X.env scope) 0 X.env).kindOf x = some k → (k = .cell ∨ k = .free) → (x, NameKind.free) ∈ scope.names := by
      intro k hk' hkk
      have q : ((scope.names.map fun y => match y with | (n, k) => if (k == NameKind.free && X.env.scope.kind == ScopeKind.function && X.env.kindOf n == some NameKind.cell) = true then (n, NameKind.cell) else (n, k))).lookup x = some k := hk'
      obtain ⟨n, k', e1, e2⟩ : ∃ n k', (n, k') ∈ scope.names ∧ (match (n, k') with | (n, k) => if (k == NameKind.free && X.env.scope.kind == ScopeKind.function && X.env.kindOf n == some NameKind.cell) = true then (n, NameKind.cell) else (n, k)) = (x, k) := by
        have m : (x, k) ∈ (scope.names.map fun y => match y with | (n, k) => if (k == NameKind.free && X.env.scope.kind == ScopeKind.function && X.env.kindOf n == some NameKind.cell) = true then (n, NameKind.cell) else (n, k)) := by
          revert q
          generalize (scope.names.map fun y => match y with | (n, k) => if (k == NameKind.free && X.env.scope.kind == ScopeKind.function && X.env.kindOf n == some NameKind.cell) = true then (n, NameKind.cell) else (n, k)) = l
          induction l with
          | nil => intro q; cases q
          | cons a l ih =>
            intro q
            obtain ⟨a1, a2⟩ := a
            rw [List.lookup_cons] at q
            cases hx : x == a1 with
            | true => rw [hx] at q; cases q; have := beq_iff_eq.mp hx; subst this; exact List.mem_cons_self
            | false => rw [hx] at q; exact List.mem_cons_of_mem _ (ih q)
        obtain ⟨⟨n, k'⟩, h1, h2⟩ := List.mem_map.mp m
        exact ⟨n, k', h1, h2⟩
      dsimp only at e2
      split at e2
      · rename_i z
        cases e2
        simp only [Bool.and_eq_true, beq_iff_eq] at z
        rw [z.1.1] at e1
        exact e1
      · cases e2
        rcases hkk with rfl | rfl
        · have z := hn _ e1
          exact absurd z Bool.false_ne_true
        · exact e1
    rcases q with q | q
    · exact clGo_has (key _ q (.inl rfl))
    · exact clGo_has (key _ q (.inr rfl))
/-- the slots of the block that stand for names around it -/
def capOk (X : Cx) (scope : Scope) : List Str → List (Option Nat) → Bool
  | [], [] => true
  | _ :: r, none :: c => capOk X scope r c
  | x :: r, some j :: c => (match X.N[j]? with | some y => x == y | none => false) && (match (compEnvC scope (clOf X.env scope) 0 X.env).kindOf x with | some .cell => true | some .free => true | _ => false)
      && (match X.env.kindOf x with | some .cell => true | some .free => true | _ => false) && capOk X scope r c
  | _, _ => false
def capt (cap : List (Option Nat)) (σ : St) : St := cap.map fun o => o.bind fun j => (σ[j]?).join
theorem capt_ok {X : Cx} {scope : Scope} {pins : List (Addr × Obj)} {σ : St} {H : Hp} {s : Shared} (I : Inv X pins σ H s) (S : Sees X scope (clOf X.env scope)) : ∀ {NY : List Str} {cap : List (Option Nat)}, capOk X scope NY cap = true → (capt cap σ).length = NY.length ∧ ∀ (i : Nat) (x : Str) (v : V), NY[i]? = some x → (capt cap σ)[i]? = some (some v) →
      ∃ c u, (((compEnvC scope (clOf X.env scope) 0 X.env).kindOf x = some .cell ∨ (compEnvC scope (clOf X.env scope) 0 X.env).kindOf x = some .free)) ∧ (clOf X.env scope).lookup x = some c ∧ RelV v u ∧ s.heap.IsCell c (some u)
  | [], [], _ => ⟨rfl, fun i x v e _ => by cases e⟩
  | [], _ :: _, h => by cases h
  | y :: r, [], h => by cases h
  | y :: r, none :: c, h => by
    obtain ⟨l, q⟩ := capt_ok I S (NY := r) (cap := c) h
    refine ⟨by rw [List.length_cons, ← l]; rfl, fun i x v e1 e2 => ?_⟩
    cases i with
    | zero => cases e2
    | succ i => exact q i x v e1 e2
  | y :: r, some j :: c, h => by
    unfold capOk at h
    rw [Bool.and_eq_true, Bool.and_eq_true, Bool.and_eq_true] at h
    obtain ⟨⟨⟨h1, h2⟩, h3⟩, h4⟩ := h
    obtain ⟨l, q⟩ := capt_ok I S (NY := r) (cap := c) h4
    refine ⟨by rw [List.length_cons, ← l]; rfl, fun i x v e1 e2 => ?_⟩
    cases i with
    | succ i => exact q i x v e1 e2
    | zero =>
      have ey : y = x := Option.some.inj e1
      subst ey
      have ev : (σ[j]?).join = some v := Option.some.inj e2
      have hσ : σ[j]? = some (some v) := by
        cases z : σ[j]? with
        | none => rw [z] at ev; cases ev
        | some o => rw [z] at ev; rw [show o = some v from ev]
      have hN : X.N[j]? = some y := by
        cases z : X.N[j]? with
        | none => rw [z] at h1; cases h1
        | some y' => rw [z] at h1; rw [beq_iff_eq.mp h1]
      have hK : (compEnvC scope (clOf X.env scope) 0 X.env).kindOf y = some .cell ∨ (compEnvC scope (clOf X.env scope) 0 X.env).kindOf y = some .free := by
        revert h2
        split
        · rename_i z; intro _; exact .inl z
        · rename_i z; intro _; exact .inr z
        · intro q; cases q
      have hV : X.env.kindOf y = some .cell ∨ X.env.kindOf y = some .free := by
        revert h3
        split
        · rename_i z; intro _; exact .inl z
        · rename_i z; intro _; exact .inr z
        · intro q; cases q
      obtain ⟨c', hc'⟩ := S.has y hK
      obtain ⟨m, _, hl⟩ := I.loc
      obtain ⟨u, ru, lk⟩ := hl j y v hN hσ (.inr hV)
      refine ⟨c', u, hK, hc', ru, ?_⟩
      rcases lk with ⟨k, _⟩ | ⟨_, c2, e3, e4⟩
      · have k' : X.env.kindOf y = some .local := k
        rcases hV with z | z <;> rw [z] at k' <;> cases k'
      · have e5 := S.sub _ _ hc'
        rw [e3] at e5
        cases e5
        exact e4
abbrev tCompC (wi : TI) (g : TG) (te : TE) (cap : List (Option Nat)) : TE := tComp wi g te fun σ _ σY => σY = capt cap σ
section
variable {X : Cx} {tg : Expr}
/-- [e for x in it]: NY the block's names, cap their slots around it -/
theorem pe_compC {iter elt : Expr} {scope : Scope} {pos : Pos} {wi : TI} {g : TG} {te : TE} (NY : List Str) (cap : List (Option Nat)) (hc : X.calm = true) (hk : seesOk X scope = true) (hcap : capOk X scope NY cap = true) (hi : PI X tg iter wi)
    (hY : ∀ (s3 : Shared) (H3 : Hp) (fp : List Addr), PG (X.comp scope (clOf X.env scope) NY s3 H3 fp) tg g ∧ PE (X.comp scope (clOf X.env scope) NY s3 H3 fp) elt te)
    (hs : ∀ x, foldedSetIterable iter X.env x = pure x := by intro _; rfl) : PE X (.ListComp elt [⟨tg, iter, [], 0⟩] scope pos) (tCompC wi g te cap) := by
  intro pins s σ H Q I h
  have S := sees_of I.ok hk
  refine pe_comp (NY := NY) hc S hi hY (fun pins σ H s3 σY I3 e => ?_) hs pins s σ H Q I h
  subst e
  exact capt_ok I3 S hcap
theorem ps_compC {iter elt : Expr} {scope : Scope} {pos pos' spos : Pos} {wi : TI} {g : TG} {te : TE} {i : Nat} {y : Str} (NY : List Str) (cap : List (Option Nat)) (hc : X.calm = true) (hk : seesOk X scope = true) (hcap : capOk X scope NY cap = true) (hi : PI X tg iter wi)
    (hY : ∀ (s3 : Shared) (H3 : Hp) (fp : List Addr), PG (X.comp scope (clOf X.env scope) NY s3 H3 fp) tg g ∧ PE (X.comp scope (clOf X.env scope) NY s3 H3 fp) elt te) (hN : X.N.Nodup) (hi' : X.N[i]? = some y) (hx : Loc X.env.scope y)
    (hf : X.fn y = true ∨ X.env.scope.names.lookup y = some .local := by first | exact .inl rfl | exact .inr rfl) (hw : swapsWith (.ListComp elt [⟨tg, iter, [], 0⟩] scope pos) (some (.Name y pos')) spos.line X.env = pure true := by rfl)
    (hs : ∀ x, foldedSetIterable iter X.env x = pure x := by intro _; rfl) : PS X (.Assign [.Name y pos'] (.ListComp elt [⟨tg, iter, [], 0⟩] scope pos) spos) (tAsg (tCompC wi g te cap) (gName i)) := by
  refine ps_comp (NY := NY) hc (fun I => sees_of I.ok hk) hi hY (fun pins σ H s3 σY I3 e => ?_) hs hN hi' hx hf hw
  subst e
  exact capt_ok I3 (sees_of I3.ok hk) hcap
end
end L2

namespace L2
open PySem PySem.Spec PyProof.Rows
section
variable {X : Cx}
def rIsB (f : Bool → Bool → Bool) : R2 := fun x y H Q => ∃ a b, x = .bl a ∧ y = .bl b ∧ Q (.bl (f a b)) H
/-- the rules of lists with the frame named (for blocks within) -/
def rLenS (K : PySem.W.Frag) : List V → Hp → VK → Prop := fun xs H Q => ∃ p ys, xs = [.ref p] ∧ (SqL K H p ys ∨ SqT K H p ys) ∧ Q (.int ys.length) H
theorem ix_listK {K : PySem.W.Frag} (e : X.K = K) : IxR X (rIxL K) := by subst e; exact ix_list
end
/-- items of a list of ints by place -/
theorem at_int {ns : List Int} {j : Int} (i : Nat) (h : i < ns.length) (e : j = i) : atI (ns.map V.int) j = some (.int (ns.getD i 0)) := by
  subst e
  refine atI_nat ?_
  rw [List.getElem?_map, List.getElem?_eq_getElem h]
  simp [List.getD, h]
theorem getD_mem {ns : List Int} {i : Nat} (h : i < ns.length) : ns.getD i 0 ∈ ns := by
  rw [List.getD_eq_getElem?_getD, List.getElem?_eq_getElem h]
  exact List.getElem_mem h
theorem map_int_at {ns : List Int} {i : Nat} {x : V} (h : (ns.map V.int)[i]? = some x) : i < ns.length ∧ x = .int (ns.getD i 0) := by
  rw [List.getElem?_map] at h
  cases e : ns[i]? with
  | none => rw [e] at h; cases h
  | some n =>
    rw [e] at h
    refine ⟨(List.getElem?_eq_some_iff.mp e).1, ?_⟩
    rw [List.getD_eq_getElem?_getD, e]
    exact (Option.some.inj h).symm
end L2

namespace L2
open PySem PySem.Spec PyProof.Rows
section
variable {X : Cx} {pins : List (Addr × Obj)} {σ : St} {H : Hp} {s : Shared}
/-- all but the names' own record stays, and that tells the same -/
theorem Inv.keptL {h' : Heap} {t' : Nat} (I : Inv X pins σ H s) {m : Str → Option Value} (hl : ∀ (i : Nat) (x : Str) (v : V), X.N[i]? = some x → σ[i]? = some (some v) → Vis X.env.scope x → ∃ u, RelV v u ∧ Look X.env s.heap m x u)
    (k : ∀ b o, b ≠ X.env.locals → s.heap.get? b = some o → h'.get? b = some o) (hn : h'.Ns X.env.locals m) : Inv X pins σ H { s with heap := h', toks := t' } := by
  have B := I.base
  have ne0 : ∀ b o, X.s₀.heap.get? b = some o → b ≠ X.env.locals := fun b o q z => by
    have h1 : b < X.s₀.heap.objs.size := Heap.lt_size q
    have h2 : X.s₀.heap.objs.size ≤ X.env.locals := I.ok.above
    rw [z] at h1
    exact absurd (Nat.lt_of_lt_of_le h1 h2) (Nat.lt_irrefl _)
  refine ⟨I.ok, I.os, I.bare, ⟨fun b o q n hb hx => ?_, fun b o q n hb hx => ?_, B.free, fun b o q hx => ?_, B.tups, B.frzs, B.tbls⟩, ⟨m, hn, fun i x v e1 e2 vs => ?_⟩, fun x c q => ?_, I.free, I.freeC, fun p hp => ?_, fun b o q => ?_, I.len⟩
  · exact k _ _ (ne0 _ _ q) (B.keep b o q n hb hx)
  · obtain ⟨sl, z⟩ := B.slot b o q n hb hx
    exact ⟨sl, k _ _ (ne0 _ _ q) z⟩
  · obtain ⟨o', z⟩ := B.there b o q hx
    exact ⟨o', k _ _ (ne0 _ _ q) z⟩
  · obtain ⟨u, r, lk⟩ := hl i x v e1 e2 vs
    refine ⟨u, r, ?_⟩
    rcases lk with z | ⟨z1, c, z2, o, z3, z4⟩
    · exact .inl z
    · exact .inr ⟨z1, c, z2, o, k _ _ (I.cne _ _ z2) z3, z4⟩
  · obtain ⟨v, o, z1, z2⟩ := I.cell x c q
    exact ⟨v, o, k _ _ (I.cne _ _ q) z1, z2⟩
  · obtain ⟨z1, z2, z3, z4⟩ := I.pin p hp
    exact ⟨k _ _ z3 z1, z2, z3, z4⟩
  · refine (I.hok b o q).stay (fun c v hc r => k _ _ ?_ r) (fun _ z => z) fun _ _ z => z
    rintro rfl
    rcases hc with z | z
    · rw [← z, I.free] at q; cases q
    · rw [I.free] at z; cases z
theorem fr_all (I : Inv X pins σ H s) {m : Str → Option Value} (hm : s.heap.Ns X.env.locals m) : Fr X.base X.env.locals s.heap m := ⟨hm, I.bk, Nat.le_trans I.ok.bsz I.ok.above⟩
theorem kept_all {h' : Heap} {m : Str → Option Value} (F : Fr X.base X.env.locals h' m) (N : News X.base X.env.locals h' (allNews X.base s.heap X.env.locals)) (I : Inv X pins σ H s) : ∀ b o, b ≠ X.env.locals → s.heap.get? b = some o → h'.get? b = some o := fun b o n q => by
  cases e : X.base.get? b with
  | none => exact (N (b, o) (mem_allNews n e q)).1
  | some o' =>
    have z := I.bk b o' e
    rw [q] at z
    cases z
    exact F.keep b o e
end
section
variable {X : Cx}
def rSum (K : PySem.W.Frag) : List V → Hp → VK → Prop := fun xs H Q => ∃ (p : Addr) (ns : List Int), xs = [.ref p] ∧ SqL K H p (ns.map V.int) ∧ Q (.int ns.sum) H
theorem call_sum (hc : X.calm = true) : CallR X (.builtin "sum") (rSum X.K) := by
  intro pins s σ H xs us Q I r h
  obtain ⟨p, ns, rfl, hp, q⟩ := h
  obtain ⟨u, rfl, ru⟩ := r.one
  cases (show u = Value.ref p from ru)
  obtain ⟨its, rv, pl, _⟩ := I.list hp
  obtain ⟨m, hm, hl⟩ := I.loc
  exact LSm.sum_ints (fr_all I hm) news_all (I.ok.hd hc) pl.isList (ints_of rv) fun h' tk t' F N =>
    ⟨.int ns.sum, H, I.keptL hl (kept_all F N I) F.ns, ⟨_, rfl⟩, q⟩
def rAny (K : PySem.W.Frag) (f : List Bool → Bool) : List V → Hp → VK → Prop := fun xs H Q => ∃ (p : Addr) (bs : List Bool), xs = [.ref p] ∧ SqL K H p (bs.map V.bl) ∧ Q (.bl (f bs)) H
end
end L2

namespace L2
open PySem PySem.Spec PyProof.Rows
mutual
/-- a value that is data -/
inductive DV (K : PySem.W.Frag) (H : Hp) : V → PyData → Prop
  | non : DV K H .non .none
  | bl (b : Bool) : DV K H (.bl b) (.bool b)
  | int (i : Int) : DV K H (.int i) (.int i)
  | str (x : Str) : DV K H (.str x) (.str x)
  | lst {a : Addr} {xs : List V} {ds : List PyData} : SqL K H a xs → DVs K H xs ds → DV K H (.ref a) (.list ds)
  | tup {a : Addr} {xs : List V} {ds : List PyData} : SqT K H a xs → DVs K H xs ds → DV K H (.ref a) (.tuple ds)
inductive DVs (K : PySem.W.Frag) (H : Hp) : List V → List PyData → Prop
  | nil : DVs K H [] []
  | cons {v : V} {vs : List V} {d : PyData} {ds : List PyData} : DV K H v d → DVs K H vs ds → DVs K H (v :: vs) (d :: ds)
end
section
variable {X : Cx} {pins : List (Addr × Obj)} {σ : St} {H : Hp} {s : Shared}
mutual
theorem dv_reads (I : Inv X pins σ H s) : ∀ {v : V} {d : PyData} {u : Value}, DV X.K H v d → RelV v u → ∃ as, Reads s.heap u d as
  | _, _, u, .non, r => by cases (show u = Value.none from r); exact ⟨_, .none⟩
  | _, _, u, .bl b, r => by cases (show u = Value.bool b from r); exact ⟨_, .bool b⟩
  | _, _, u, .int i, r => by obtain ⟨t, rfl⟩ := (show ∃ t, u = Value.int i t from r); exact ⟨_, .int i t⟩
  | _, _, u, .str x, r => by obtain ⟨t, rfl⟩ := (show ∃ t, u = Value.str x t from r); exact ⟨_, .str x t⟩
  | _, _, u, .lst (a := a) h q, r => by
    cases (show u = Value.ref a from r)
    obtain ⟨its, rv, ⟨o, n, e, c, d, f⟩, _⟩ := I.list h
    obtain ⟨as, ra⟩ := dvs_reads I q rv
    exact ⟨_, .list e c f ra⟩
  | _, _, u, .tup (a := a) h q, r => by
    cases (show u = Value.ref a from r)
    obtain ⟨its, rv, ⟨o, e, c, n, f⟩, _⟩ := I.tuple h
    obtain ⟨as, ra⟩ := dvs_reads I q rv
    exact ⟨_, .tuple e c f ra⟩
theorem dvs_reads (I : Inv X pins σ H s) : ∀ {vs : List V} {ds : List PyData} {us : List Value}, DVs X.K H vs ds → Vals vs us → ∃ as, ReadsAll s.heap us ds as
  | _, _, _, .nil, .nil => ⟨_, .nil⟩
  | _, _, _, .cons h q, .cons r rr => by
    obtain ⟨as, ra⟩ := dv_reads I h r
    obtain ⟨bs, rb⟩ := dvs_reads I q rr
    exact ⟨_, .cons ra rb⟩
end
end
section
variable {X : Cx}
def rEqD (K : PySem.W.Frag) (f : Bool → Bool) : R2 := fun x y H Q => ∃ d e, DV K H x d ∧ DV K H y e ∧ d.canLay0 = true ∧ e.canLay0 = true ∧ d.depth ≤ 64 ∧ Q (.bl (f (d.eqv e))) H
theorem op_eqD (hu : X.A.units + 64 < cLine) : OpR X (compareOp .Eq) (rEqD X.K id) := by
  intro pins s σ H x y v u Q I rx ry h
  obtain ⟨d, e, hd, he, c1, c2, dp, q⟩ := h
  obtain ⟨as, ra⟩ := dv_reads I hd rx
  obtain ⟨bs, rb⟩ := dv_reads I he ry
  exact SeqAt.compareEq_reads ra rb c1 c2 (by omega) ⟨.bl _, H, I, rfl, q⟩
theorem op_neD (hu : X.A.units + 64 < cLine) : OpR X (compareOp .NotEq) (rEqD X.K not) := by
  intro pins s σ H x y v u Q I rx ry h
  obtain ⟨d, e, hd, he, c1, c2, dp, q⟩ := h
  obtain ⟨as, ra⟩ := dv_reads I hd rx
  obtain ⟨bs, rb⟩ := dv_reads I he ry
  exact SeqAt.compareNe_reads ra rb c1 c2 (by omega) ⟨.bl _, H, I, rfl, q⟩
end
/-! ### lists of ints as data -/
def dI (ns : List Int) : PyData := .list (ns.map PyData.int)
theorem dvs_ints {K : PySem.W.Frag} {H : Hp} : ∀ {ns : List Int}, DVs K H (ns.map V.int) (ns.map PyData.int)
  | [] => .nil
  | n :: ns => .cons (.int n) dvs_ints
theorem dv_ints {K : PySem.W.Frag} {H : Hp} {a : Addr} {ns : List Int} (h : SqL K H a (ns.map V.int)) : DV K H (.ref a) (dI ns) := .lst h dvs_ints
theorem layAll_ints : ∀ {ns : List Int}, PyData.canLayAll0 (ns.map PyData.int) = true
  | [] => rfl
  | n :: ns => by
    rw [List.map_cons]
    show (PyData.canLay0 (.int n) && PyData.canLayAll0 (ns.map PyData.int)) = true
    rw [layAll_ints]; rfl
theorem lay_ints {ns : List Int} : (dI ns).canLay0 = true := layAll_ints
theorem depthAll_ints : ∀ {ns : List Int}, PyData.depthAll (ns.map PyData.int) ≤ 1
  | [] => by decide
  | n :: ns => by
    have := depthAll_ints (ns := ns)
    rw [List.map_cons]
    show max (PyData.depth (.int n)) (PyData.depthAll (ns.map PyData.int)) ≤ 1
    have e : PyData.depth (.int n) ≤ 1 := by show _ ≤ _; simp [PyData.depth]
    omega
end L2
namespace L2
open PySem
theorem dep_list {xs : List PyData} {n : Nat} (h : PyData.depthAll xs ≤ n) : (PyData.list xs).depth ≤ n + 1 := by
  have e : (PyData.list xs).depth = PyData.depthAll xs + 1 := by first | rfl | (simp [PyData.depth]; done) | (simp [PyData.depth]; omega)
  omega
theorem dep_nil {n : Nat} : PyData.depthAll [] ≤ n := by
  have e : PyData.depthAll [] = 0 := by first | rfl | simp [PyData.depthAll]
  omega
theorem dep_ints {ns : List Int} : (dI ns).depth ≤ 2 := dep_list depthAll_ints
end L2

namespace L2
open PySem PySem.Spec PyProof.Rows
theorem sql_same {K : PySem.W.Frag} {H H' : Hp} {a : Addr} {xs : List V} (h : SqL K H a xs) (s : Same H H') : SqL K H' a xs := by
  rcases h with h | h
  · exact .inl (h.imp (fun z => s _ _ z) fun ⟨o, z⟩ => ⟨o, s _ _ z⟩)
  · exact .inr h
theorem same_upd {H H' : Hp} {a : Addr} {o : HO} (s : Same H H') (h : H a = none) : Same H (upd H' a o) := fun c x z => by rw [upd_ne (ne_of_none z h)]; exact s _ _ z
theorem Same.none {H H' : Hp} {a : Addr} (s : Same H H') (h : H' a = none) : H a = none := by
  cases e : H a with
  | none => rfl
  | some o => rw [s _ _ e] at h; cases h
/-- a piece of a list of ints -/
def cutI (cs : List Int) (a b : Int) : List Int := (cs.drop (min a.toNat cs.length)).take (min b.toNat cs.length - min a.toNat cs.length)
theorem sIx_pos {n d : Nat} {a : Int} (h : 0 ≤ a) : HT.sIx n d (some a) = min a.toNat n := by
  show (if a < 0 then (a + (n : Int)).toNat else min a.toNat n) = min a.toNat n
  rw [if_neg (by omega)]
theorem cutV_take {cs : List Int} {b : Int} (hb : 0 ≤ b) : cutV (cs.map V.int) none (some b) = (cs.take b.toNat).map V.int := by
  unfold cutV
  rw [HT.sIx_none, sIx_pos hb, List.length_map, List.drop_zero, Nat.sub_zero, ← List.map_take]
  congr 1
  rw [List.take_eq_take_iff]
  omega
theorem take_snoc {ns : List Int} {i : Nat} (h : i < ns.length) : ns.take (i + 1) = ns.take i ++ [ns.getD i 0] := by
  rw [List.take_add_one, List.getD_eq_getElem?_getD, List.getElem?_eq_getElem h]; rfl
theorem sum_take_succ {ns : List Int} {i : Nat} (h : i < ns.length) : (ns.take (i + 1)).sum = (ns.take i).sum + ns.getD i 0 := by
  have e : ns.take (i + 1) = ns.take i ++ [ns.getD i 0] := by
    rw [List.take_add_one, List.getD_eq_getElem?_getD, List.getElem?_eq_getElem h]; rfl
  rw [e, List.sum_append]
  simp
theorem sum_mono {ns : List Int} (h : ∀ v ∈ ns, 0 ≤ v) : ∀ (i : Nat), 0 ≤ (ns.take i).sum ∧ (ns.take i).sum ≤ ns.sum := by
  induction ns with
  | nil => intro i; simp
  | cons n ns ih =>
    intro i
    have z := h n List.mem_cons_self
    cases i with
    | zero =>
      have := (ih (fun v hv => h v (List.mem_cons_of_mem _ hv)) ns.length).1
      rw [List.take_length] at this
      simp; omega
    | succ i =>
      have := ih (fun v hv => h v (List.mem_cons_of_mem _ hv)) i
      rw [List.take_succ_cons, List.sum_cons, List.sum_cons]
      omega
end L2

namespace L2
open PySem PySem.Spec PyProof.Rows
section
variable {P : Program} {w : World} {K : PySem.W.Frag} {mg : Str → Option Value} {base : Heap}
/-- a method of a class, as it stands behind the top -/
def MethIn (K : PySem.W.Frag) (C : Addr) (x qual : Str) (st : Stmt) (ps : List Str) : Prop := ∃ (f : Addr) (fd : FuncData), Meth K C x f ∧ Fun K x qual st f fd ∧ Binds K fd ps []
/-- .. keeping its promise -/
def OkM (P : Program) (w : World) (K : PySem.W.Frag) (mg : Str → Option Value) (base : Heap) (CX : CXT) (k : Nat) (C : Addr) (x : Str) (ps : List Str) (sp : Sp) : Prop :=
  ∃ (f : Addr) (fd : FuncData), Meth K C x f ∧ Binds K fd ps [] ∧ FnOk P w K mg base CX k f fd ps sp
/-- the making of an object: its __init__ keeping its promise -/
def InitIn (K : PySem.W.Frag) (C : Addr) (qual : Str) (st : Stmt) (ps : List Str) : Prop := ∃ (f : Addr) (fd : FuncData), Mk K C f ∧ Fun K "__init__" qual st f fd ∧ Binds K fd ps []
def OkI (P : Program) (w : World) (K : PySem.W.Frag) (mg : Str → Option Value) (base : Heap) (CX : CXT) (k : Nat) (C : Addr) (ps : List Str) (sp : Sp) : Prop :=
  ∃ (f : Addr) (fd : FuncData), Mk K C f ∧ Binds K fd ps [] ∧ FnOk P w K mg base CX k f fd ps sp
theorem OkM.mono {CX : CXT} {j k : Nat} {C : Addr} {x : Str} {ps : List Str} {sp : Sp} (o : OkM P w K mg base CX j C x ps sp) (h : j ≤ k) : OkM P w K mg base CX k C x ps sp := by
  obtain ⟨f, fd, a, b, c⟩ := o
  exact ⟨f, fd, a, b, c.mono h⟩
end
section
variable {X : Cx} {CX : CXT} {k : Nat} {C : Addr} {ps : List Str} {sp : Sp} {E : XK} {x m : Str} {p pos apos : Pos} {e o : Expr} {es : List Expr} {ta : TE} {t : TA}
theorem pe_okI (h : OkI X.prog X.w X.K X.mg X.base CX k C ps sp) (hm : X.mg x = some (.ref C)) (hr : Room (k + 1) X.A) (hg : Gl X x) (hx : Passes CX X E) (ha : PA X (e :: es) t) (hdb : (x == ("__debug__" : Str)) = false := by decide)
    (he : starEach (e :: es) X.env = (false, eval e X.env) :: starEach es X.env := by rfl) (hpl : (backTo pos (starEach es X.env)).any (·.1) = false := by rfl) : PE X (.Call (.Name x p) (e :: es) [] pos) (tMake C sp [] E t) := by
  obtain ⟨f, fd, a, b, d⟩ := h
  exact pe_make a d hr hg hm b .nil hx ha hdb he hpl
end
theorem set_ints {ns : List Int} {j : Nat} {n : Int} : (ns.map V.int).set j (.int n) = (ns.set j n).map V.int := by rw [List.map_set]
theorem ixN_nat {n : Nat} {i : Int} (h0 : 0 ≤ i) (h1 : i < n) : ixN n i = some i.toNat := by
  unfold ixN
  rw [if_pos h0, if_pos h1]
end L2

namespace My
open PySem PySem.W PyProof.Rows
/-- within n bits and a sign -/
def In (n : Nat) (x : Int) : Prop := -(2 ^ n) ≤ x ∧ x < 2 ^ n
end My

namespace My
open PySem PySem.W PyProof.Rows
def kept (n : Int) : Int := Int.fmod (n + 9223372036854775808) 18446744073709551616 - 9223372036854775808
def Kin (x : Int) : Prop := -9223372036854775808 ≤ x ∧ x ≤ 9223372036854775807
/-- an operation that may be taken in any order on the kept numbers -/
structure Free (op : Int → Int → Int) : Prop where
  cl : ∀ a b, Kin a → Kin b → Kin (op a b)
  cm : ∀ a b, Kin a → Kin b → op a b = op b a
  as : ∀ a b c, Kin a → Kin b → Kin c → op (op a b) c = op a (op b c)
def fold1 (op : Int → Int → Int) : List Int → Int
  | [] => 0
  | x :: xs => xs.foldl op x
end My

namespace L2
open PySem PySem.Spec PyProof.Rows
/-- a method of a class keeping the promise sp -/
def DispX (P : Program) (w : World) (K : PySem.W.Frag) (mg : Str → Option Value) (base : Heap) (CX : CXT) (k : Nat) (m : Str) (C : Addr) (sp : Sp) : Prop := Cls K C ∧ ∃ (f : Addr) (fd : FuncData) (ps : List Str), Meth K C m f ∧ FnOk P w K mg base CX k f fd ps sp ∧ Binds K fd ps []
theorem DispX.mono {P : Program} {w : World} {K : PySem.W.Frag} {mg : Str → Option Value} {base : Heap} {CX : CXT} {j k : Nat} {m : Str} {C : Addr} {sp : Sp} (d : DispX P w K mg base CX j m C sp) (h : j ≤ k) : DispX P w K mg base CX k m C sp := by
  obtain ⟨c, f, fd, ps, a, b, e⟩ := d
  exact ⟨c, f, fd, ps, a, b.mono h, e⟩
def tMethX (Ds : Addr → Sp → Prop) (m : Str) (E : XK) (ta : TE) (t : TA) : TE := fun σ H Q => ta σ H fun x H1 => ∃ a C dx fs sp, x = .ref a ∧ H1 a = some (.ins C dx fs) ∧ Ds C sp ∧ fs.lookup m = none ∧ t σ H1 fun vs H2 => sp (x :: vs) H2 Q E
section
variable {X : Cx} {σ₀ : St}
theorem pe1_methX {CX : CXT} {k : Nat} {E : XK} {m : Str} {apos pos : Pos} {o e : Expr} {es : List Expr} {ta : TE} {t : TA} {pl : Sem Bool} (hr : Room k X.A) (hx : Passes1 CX X σ₀ E) (he : PE X o ta) (ha : PA X (e :: es) t)
    (hst : starEach (e :: es) X.env = (false, eval e X.env) :: starEach es X.env := by rfl) (hpl : (backTo pos (starEach es X.env)).any (·.1) = false := by rfl)
    (ht : eval (.Call (.Attribute o m apos) (e :: es) [] pos) X.env = (do
      let ov ← eval o X.env
      standAt apos.atName
      let (f, first) ← holding [ov] (getMethod ov m pl)
      callWith pos f first (backTo pos (starEach (e :: es) X.env)) (backToKw pos (keywordEach [] X.env))) := by rfl) :
    PE1 X σ₀ (.Call (.Attribute o m apos) (e :: es) [] pos) (tMethX (DispX X.prog X.w X.K X.mg X.base CX k m) m E ta t) := by
  intro pins s H Q I h
  refine PySem.W.methodCall_KW (pl := pl) (thn (he pins s σ₀ H _ I h) fun u s1 ⟨x, H1, I1, rx, a, C, dx, fs, sp, ex, ea, dp, l, q⟩ => ?_) ht
  subst ex
  obtain rfl : u = Value.ref a := rx
  obtain ⟨cl, f, fd, ps, hm, F, hb⟩ := dp
  refine getmeth_ok I1 ea cl hm l ?_
  refine PySem.W.callWith_K (first := [.ref a]) (h₀ := X.base) I.ok.mod.kin hm.kp (thn (ha pos pins s1 σ₀ H1 _ I1 q) fun us s2 ⟨vs, H2, I2, r, q2⟩ => ⟨I2.kIn, ?_⟩) hst hpl
  exact run_fn1 (us := .ref a :: us) (vs := .ref a :: vs) (dvs := []) (ds := []) F hr hb .nil hx I2 (.cons rfl r) (by simpa using q2)
theorem pe_methX {CX : CXT} {k : Nat} {E : XK} {m : Str} {apos pos : Pos} {o e : Expr} {es : List Expr} {ta : TE} {t : TA} {pl : Sem Bool} (hr : Room k X.A) (hx : Passes CX X E) (he : PE X o ta) (ha : PA X (e :: es) t)
    (hst : starEach (e :: es) X.env = (false, eval e X.env) :: starEach es X.env := by rfl) (hpl : (backTo pos (starEach es X.env)).any (·.1) = false := by rfl)
    (ht : eval (.Call (.Attribute o m apos) (e :: es) [] pos) X.env = (do
      let ov ← eval o X.env
      standAt apos.atName
      let (f, first) ← holding [ov] (getMethod ov m pl)
      callWith pos f first (backTo pos (starEach (e :: es) X.env)) (backToKw pos (keywordEach [] X.env))) := by rfl) :
    PE X (.Call (.Attribute o m apos) (e :: es) [] pos) (tMethX (DispX X.prog X.w X.K X.mg X.base CX k m) m E ta t) :=
  PE1.all fun _ => pe1_methX hr hx.one he ha hst hpl ht
end
end L2
namespace FM
open PySem L2
abbrev Kin (x : Int) : Prop := -9223372036854775808 ≤ x ∧ x ≤ 9223372036854775807
def kept (n : Int) : Int := (n + 9223372036854775808) % (2 * 9223372036854775808) - 9223372036854775808
def signs : List Str := ["+", "-", "*", "/", "rest", "least", "most", "<", "=", "&", "|", "^"]
def doneR (sg : Str) (a b : Int) : Option Int :=
  if sg = "+" then some (kept (a + b)) else if sg = "-" then some (kept (a - b)) else if sg = "*" then some (kept (a * b))
  else if sg = "/" then (if b = 0 then none else some (kept (a.fdiv b))) else if sg = "rest" then (if b = 0 then none else some (a.fmod b))
  else if sg = "least" then some (if b < a then b else a) else if sg = "most" then some (if b > a then b else a)
  else if sg = "<" then some (if a < b then 1 else 0) else if sg = "=" then some (if a = b then 1 else 0)
  else if sg = "&" then some (Builtin.bitAnd a b) else if sg = "|" then some (Builtin.bitOr a b) else some (Builtin.bitXor a b)
def edges : List Int := [-9223372036854775808, 9223372036854775807, -1, 4294967296, -9223372036854775807, 3037000500]
def keptBy (c : Int) : Int :=
  if c % 4 = 0 then c / 4 % 7 - 3 else if c % 4 = 1 then edges.getD (c / 4 % 6).toNat 0 else if c % 4 = 2 then c / 4 * 48271 % 2001 - 1000
  else c / 4 * 2862933555777941757 % 18446744073709551616 - 9223372036854775808
theorem edge_at : ∀ k : Nat, k < 6 → (edges.map V.int)[k]? = some (V.int (edges.getD k 0)) ∧ Kin (edges.getD k 0) := by decide
theorem keptBy_in (c : Int) : Kin (keptBy c) := by
  unfold keptBy
  split
  · omega
  · split
    · exact (edge_at _ (by omega)).2
    · split <;> omega
def bitDue (sg : Str) (a b : Int) : Int := if sg = "&" then a * b else if sg = "|" then (if b > a then b else a) else (a + b) % 2
/-! ### forms -/
inductive Fm | num (n : Int) | here | cell (r : Int) | shi (r by' other : Int) | loc (at' : Int) | at' (r : Int) (p : Fm) | pair (sg : Str) (l r : Fm) | cho (t l r : Fm)
inductive Res | ok (n : Int) | nought | outside
  deriving DecidableEq
structure SpotD where
  lens : List Int
  cells : List Int
  place : Int
  own : List Int
structure Cs where
  num : Addr
  here : Addr
  cell : Addr
  shi : Addr
  loc : Addr
  at' : Addr
  pair : Addr
  cho : Addr
  spot : Addr
def FormAt (c : Cs) (H : Hp) : Fm → Addr → Prop
  | .num n, x => ∃ dx, H x = some (.ins c.num dx [("number", .int n)])
  | .here, x => ∃ dx, H x = some (.ins c.here dx [])
  | .cell r, x => ∃ dx, H x = some (.ins c.cell dx [("row", .int r)])
  | .shi r b o, x => ∃ dx, H x = some (.ins c.shi dx [("row", .int r), ("by", .int b), ("other", .int o)])
  | .loc a, x => ∃ dx, H x = some (.ins c.loc dx [("at", .int a)])
  | .at' r p, x => ∃ dx y, H x = some (.ins c.at' dx [("row", .int r), ("place", .ref y)]) ∧ FormAt c H p y
  | .pair sg l r, x => ∃ dx y z, H x = some (.ins c.pair dx [("sign", .str sg), ("left", .ref y), ("right", .ref z)]) ∧ FormAt c H l y ∧ FormAt c H r z
  | .cho t l r, x => ∃ dx u y z, H x = some (.ins c.cho dx [("test", .ref u), ("left", .ref y), ("right", .ref z)]) ∧ FormAt c H t u ∧ FormAt c H l y ∧ FormAt c H r z
theorem FormAt.same {c : Cs} {H H' : Hp} (s : Same H H') : ∀ {F : Fm} {x : Addr}, FormAt c H F x → FormAt c H' F x
  | .num _, _, ⟨dx, h⟩ => ⟨dx, s _ _ h⟩
  | .here, _, ⟨dx, h⟩ => ⟨dx, s _ _ h⟩
  | .cell _, _, ⟨dx, h⟩ => ⟨dx, s _ _ h⟩
  | .shi _ _ _, _, ⟨dx, h⟩ => ⟨dx, s _ _ h⟩
  | .loc _, _, ⟨dx, h⟩ => ⟨dx, s _ _ h⟩
  | .at' _ _, _, ⟨dx, y, h, p⟩ => ⟨dx, y, s _ _ h, FormAt.same s p⟩
  | .pair _ _ _, _, ⟨dx, y, z, h, p, q⟩ => ⟨dx, y, z, s _ _ h, FormAt.same s p, FormAt.same s q⟩
  | .cho _ _ _, _, ⟨dx, u, y, z, h, o, p, q⟩ => ⟨dx, u, y, z, s _ _ h, FormAt.same s o, FormAt.same s p, FormAt.same s q⟩
structure SpotAt (c : Cs) (K : PySem.W.Frag) (H : Hp) (x : Addr) (S : SpotD) : Prop where
  ex : ∃ dx l f e o, H x = some (.ins c.spot dx [("lengths", .ref l), ("functions", .ref f), ("cells", .ref e), ("place", .int S.place), ("own", .ref o)]) ∧ SqL K H l (S.lens.map V.int) ∧ SqL K H e (S.cells.map V.int) ∧ SqL K H o (S.own.map V.int)
theorem SpotAt.same {c : Cs} {K : PySem.W.Frag} {H H' : Hp} {x : Addr} {S : SpotD} (s : Same H H') (h : SpotAt c K H x S) : SpotAt c K H' x S := by
  obtain ⟨dx, l, f, e, o, h1, h2, h3, h4⟩ := h.ex
  exact ⟨dx, l, f, e, o, s _ _ h1, sql_same h2 s, sql_same h3 s, sql_same h4 s⟩
def SpotD.start (S : SpotD) (r : Int) : Int := (S.lens.take r.toNat).sum
def SpotD.len (S : SpotD) (r : Int) : Int := S.lens.getD r.toNat 0
def SpotD.cellAt (S : SpotD) (r q : Int) : Int := S.cells.getD (S.start r + q).toNat 0
structure SpotOk (S : SpotD) : Prop where
  ln : ∀ v ∈ S.lens, 0 ≤ v
  tot : (S.cells.length : Int) = S.lens.sum
  ck : ∀ v ∈ S.cells, Kin v
  ok' : ∀ v ∈ S.own, Kin v
  pl : Kin S.place
def SpotD.has (S : SpotD) (r : Int) : Prop := 0 ≤ r ∧ r.toNat < S.lens.length
theorem cell_in {S : SpotD} (o : SpotOk S) {r q : Int} (h : S.has r) (h0 : 0 ≤ q) (h1 : q < S.len r) : 0 ≤ S.start r + q ∧ S.start r + q < S.cells.length ∧ Kin (S.cellAt r q) := by
  have m := sum_mono o.ln r.toNat
  have m2 := sum_mono o.ln (r.toNat + 1)
  have e := sum_take_succ h.2
  have t := o.tot
  unfold SpotD.start SpotD.len at *
  have a : 0 ≤ (S.lens.take r.toNat).sum + q := by omega
  have b : (S.lens.take r.toNat).sum + q < S.cells.length := by omega
  refine ⟨a, b, ?_⟩
  unfold SpotD.cellAt SpotD.start
  exact o.ck _ (L2.getD_mem (by omega))
def ev (S : SpotD) : Fm → Res
  | .num n => .ok n
  | .here => .ok S.place
  | .cell r => if S.len r = 1 then .ok (S.cellAt r 0) else .ok (S.cellAt r S.place)
  | .shi r b o => if 0 ≤ S.place + b ∧ S.place + b < S.len r then .ok (S.cellAt r (S.place + b)) else .ok o
  | .loc a => .ok (S.own.getD a.toNat 0)
  | .at' r p => match ev S p with
    | .ok q => if 0 ≤ q ∧ q < S.len r then .ok (S.cellAt r q) else .outside
    | e => e
  | .pair sg l r => match ev S l with
    | .ok a => (match ev S r with
      | .ok b => (match doneR sg a b with
        | some n => .ok n
        | none => .nought)
      | e => e)
    | e => e
  | .cho t l r => match ev S t with
    | .ok a => if a ≠ 0 then ev S l else ev S r
    | e => e
def WF (S : SpotD) : Fm → Prop
  | .num n => Kin n
  | .here => True
  | .cell r => S.has r ∧ 1 ≤ S.len r ∧ (S.len r ≠ 1 → 0 ≤ S.place ∧ S.place < S.len r)
  | .shi r _ o => S.has r ∧ Kin o
  | .loc a => 0 ≤ a ∧ a.toNat < S.own.length
  | .at' r p => S.has r ∧ WF S p
  | .pair sg l r => sg ∈ signs ∧ WF S l ∧ WF S r
  | .cho t l r => WF S t ∧ WF S l ∧ WF S r
/-- what a form's worth comes to -/
def Out (CN OU : Addr) (r : Res) (H : Hp) (Q : VK) (E : XK) : Prop := ∀ H', Same H H' → match r with
  | .ok n => Q (.int n) H'
  | .nought => E (.ref CN) none H'
  | .outside => E (.ref OU) none H'
/-- the promise of a form -/
def Worth (P : Program) (w : World) (K : PySem.W.Frag) (mg : Str → Option Value) (base : Heap) (c : Cs) (CN OU : Addr) (k : Nat) (F : Fm) : Prop :=
  ∀ (x : Addr) (H : Hp), FormAt c H F x → ∃ C dx fs sp, H x = some (.ins C dx fs) ∧ DispX P w K mg base (CXe P w base) k "worth" C sp ∧ fs.lookup ("worth" : Str) = none ∧
    ∀ (s : Addr) (S : SpotD) (Q : VK) (E : XK), SpotAt c K H s S → SpotOk S → WF S F → Out CN OU (ev S F) H Q E → sp [.ref x, .ref s] H Q E
theorem Worth.mono {P : Program} {w : World} {K : PySem.W.Frag} {mg : Str → Option Value} {base : Heap} {c : Cs} {CN OU : Addr} {j k : Nat} {F : Fm} (h : Worth P w K mg base c CN OU j F) (l : j ≤ k) : Worth P w K mg base c CN OU k F := fun x H q => by
  obtain ⟨C, dx, fs, sp, a, b, d, e⟩ := h x H q
  exact ⟨C, dx, fs, sp, a, b.mono l, d, e⟩
theorem Out.same {CN OU : Addr} {r : Res} {H H' : Hp} {Q : VK} {E : XK} (o : Out CN OU r H Q E) (s : Same H H') : Out CN OU r H' Q E := fun H2 s2 => o H2 (s.trans s2)
end FM

namespace L2
open PySem PySem.Spec PyProof.Rows
/-- what stands in a heap beside what stood in B: the objects of L, no two at one address -/
structure Hd (B : Hp) (L : List (Addr × HO)) (H : Hp) : Prop where
  nd : (L.map Prod.fst).Nodup
  nw : ∀ p ∈ L, B p.1 = none
  st : ∀ p ∈ L, H p.1 = some p.2
  sm : Same B H
namespace Hd
variable {B : Hp} {L : List (Addr × HO)} {H H' : Hp} {a b : Addr} {o o' : HO}
theorem base : Hd B [] B := ⟨List.nodup_nil, (fun _ h => nomatch h), (fun _ h => nomatch h), Same.refl B⟩
theorem get (h : Hd B L H) (i : Nat) (e : L[i]? = some (a, o)) : H a = some o := h.st _ (List.mem_of_getElem? e)
theorem same (h : Hd B L H) (s : Same H H') : Hd B L H' := ⟨h.nd, h.nw, fun p m => s _ _ (h.st p m), h.sm.trans s⟩
theorem new (h : Hd B L H) (n : H a = none) : Hd B ((a, o) :: L) (upd H a o) := by
  have ne : ∀ p ∈ L, p.1 ≠ a := fun p m => ne_of_none (h.st p m) n
  refine ⟨List.nodup_cons.mpr ⟨fun m => ?_, h.nd⟩, fun p m => ?_, fun p m => ?_, same_upd h.sm (h.sm.free n)⟩
  · obtain ⟨p, mp, e⟩ := List.mem_map.mp m
    exact ne p mp e
  · rcases List.mem_cons.mp m with rfl | m
    · exact h.sm.free n
    · exact h.nw p m
  · rcases List.mem_cons.mp m with rfl | m
    · exact upd_same
    · rw [upd_ne (ne p m)]; exact h.st p m
theorem fst_set (i : Nat) (e : L[i]? = some (a, o)) : (L.set i (a, o')).map Prod.fst = L.map Prod.fst := by
  rw [List.map_set]
  apply List.ext_getElem?
  intro j
  rw [List.getElem?_set]
  split
  · rename_i q
    subst q
    split
    · rw [List.getElem?_map, e]; rfl
    · rename_i q
      rw [List.getElem?_eq_none (by omega)]
  · rfl
theorem ne (h : Hd B L H) (i j : Nat) (ei : L[i]? = some (a, o)) (ej : L[j]? = some (b, o')) (hij : i ≠ j) : a ≠ b := fun e => by
  subst e
  have h1 : (L.map Prod.fst)[i]? = some a := by rw [List.getElem?_map, ei]; rfl
  have h2 : (L.map Prod.fst)[j]? = some a := by rw [List.getElem?_map, ej]; rfl
  obtain ⟨b1, e1⟩ := List.getElem?_eq_some_iff.mp h1
  obtain ⟨b2, e2⟩ := List.getElem?_eq_some_iff.mp h2
  have key : ∀ (l : List Addr), l.Nodup → ∀ (i j : Nat) (b1 : i < l.length) (b2 : j < l.length), l[i] = l[j] → i = j := by
    intro l hl
    induction l with
    | nil => intro i j b1; cases b1
    | cons x r ih =>
      intro i j b1 b2 q
      have nr := List.nodup_cons.mp hl
      cases i with
      | zero =>
        cases j with
        | zero => rfl
        | succ j => exact absurd (by rw [List.getElem_cons_zero, List.getElem_cons_succ] at q; rw [q]; exact List.getElem_mem _) nr.1
      | succ i =>
        cases j with
        | zero => exact absurd (by rw [List.getElem_cons_zero, List.getElem_cons_succ] at q; rw [← q]; exact List.getElem_mem _) nr.1
        | succ j => rw [List.getElem_cons_succ, List.getElem_cons_succ] at q; rw [ih nr.2 i j _ _ q]
  exact hij (key _ h.nd i j b1 b2 (e1.trans e2.symm))
theorem chg (h : Hd B L H) (i : Nat) (e : L[i]? = some (a, o)) (k : ∀ c u, c ≠ a → H c = some u → H' c = some u) (q : H' a = some o') : Hd B (L.set i (a, o')) H' := by
  have nb : B a = none := h.nw _ (List.mem_of_getElem? e)
  refine ⟨by rw [fst_set i e]; exact h.nd, fun p m => ?_, fun p m => ?_, fun c u z => k c u (ne_of_none z nb) (h.sm c u z)⟩
  · rcases List.mem_or_eq_of_mem_set m with m | rfl
    · exact h.nw p m
    · exact nb
  · obtain ⟨j, lt, ej⟩ := List.getElem_of_mem m
    have ej : (L.set i (a, o'))[j]? = some p := by rw [List.getElem?_eq_getElem lt, ej]
    rw [List.getElem?_set] at ej
    split at ej
    · split at ej
      · cases ej; exact q
      · cases ej
    · rename_i hij
      obtain ⟨c, u⟩ := p
      exact k c u (Ne.symm (h.ne i j e ej hij)) (h.get j ej)
theorem put (h : Hd B L H) (i : Nat) (e : L[i]? = some (a, o)) : Hd B (L.set i (a, o')) (upd H a o') := h.chg i e (fun c u n z => by rw [upd_ne n]; exact z) upd_same
theorem sql (h : Hd B L H) {K : PySem.W.Frag} {xs : List V} (q : SqL K B a xs) : SqL K H a xs := sql_same q h.sm
theorem lst (h : Hd B L H) {K : PySem.W.Frag} {xs : List V} (i : Nat) (e : L[i]? = some (a, .lst xs)) : SqL K H a xs := SqL.of (h.get i e)
theorem tup (h : Hd B L H) {K : PySem.W.Frag} {xs : List V} (i : Nat) (e : L[i]? = some (a, .tup xs)) : SqT K H a xs := SqT.of (h.get i e)
theorem sub {L' : List (Addr × HO)} (h : Hd B L H) (s : List.Sublist L' L) : Hd B L' H := ⟨h.nd.sublist (s.map _), fun p m => h.nw p (s.subset m), fun p m => h.st p (s.subset m), h.sm⟩
theorem tl {p : Addr × HO} (h : Hd B (p :: L) H) : Hd B L H := h.sub (List.sublist_cons_self _ _)
theorem free (h : Hd B L H) (n : H a = none) : B a = none := h.sm.free n
theorem add (h : Hd B L H) (n : ∀ p ∈ L, p.1 ≠ a) (nb : B a = none) (e : H a = some o) : Hd B ((a, o) :: L) H := by
  refine ⟨List.nodup_cons.mpr ⟨fun m => ?_, h.nd⟩, fun p m => ?_, fun p m => ?_, h.sm⟩
  · obtain ⟨p, mp, e⟩ := List.mem_map.mp m
    exact n p mp e
  · rcases List.mem_cons.mp m with rfl | m
    · exact nb
    · exact h.nw p m
  · rcases List.mem_cons.mp m with rfl | m
    · exact e
    · exact h.st p m
/-- an object made whose __init__ laid one list beside it -/
theorem made {C x dx l : Addr} {ox ol : HO} (h : Hd B L H) (nx : H x = none) (ndx : H dx = none) (ne : dx ≠ x) (k : ∀ b u, b ≠ x → upd (upd H dx (.own x)) x (.ins C dx []) b = some u → H' b = some u)
    (nl : upd (upd H dx (.own x)) x (.ins C dx []) l = none) (ex : H' x = some ox) (el : H' l = some ol) : Hd B ((l, ol) :: (x, ox) :: (dx, .own x) :: L) H' := by
  have h1 : Hd B ((dx, .own x) :: L) (upd H dx (.own x)) := h.new ndx
  have h2 : Hd B ((x, .ins C dx []) :: (dx, .own x) :: L) (upd (upd H dx (.own x)) x (.ins C dx [])) := h1.new (by rw [upd_ne (Ne.symm ne)]; exact nx)
  have h3 : Hd B ((x, ox) :: (dx, .own x) :: L) H' := h2.chg 0 rfl k ex
  refine h3.add (fun p m => ?_) (h2.free nl) el
  rcases List.mem_cons.mp m with rfl | m
  · exact ne_of_none (h2.get 0 rfl) nl
  · exact ne_of_none (h2.st p (List.mem_cons_of_mem _ m)) nl
/-- an object made -/
theorem made0 {C x dx : Addr} {ox : HO} (h : Hd B L H) (nx : H x = none) (ndx : H dx = none) (ne : dx ≠ x) (k : ∀ b u, b ≠ x → upd (upd H dx (.own x)) x (.ins C dx []) b = some u → H' b = some u) (ex : H' x = some ox) : Hd B ((x, ox) :: (dx, .own x) :: L) H' := by
  have h1 : Hd B ((dx, .own x) :: L) (upd H dx (.own x)) := h.new ndx
  have h2 : Hd B ((x, .ins C dx []) :: (dx, .own x) :: L) (upd (upd H dx (.own x)) x (.ins C dx [])) := h1.new (by rw [upd_ne (Ne.symm ne)]; exact nx)
  exact h2.chg 0 rfl k ex
end Hd
/-! ### a stop between two statements: what holds there -/
section
variable {X : Cx} {st : Stmt} {t : TS} {e : Expr} {te : TE}
def tMid (t : TS) : TS := fun D σ H => ∃ M : St → Hp → Prop, t { D with nx := M } σ H ∧ ∀ σ' H', M σ' H' → D.nx σ' H'
theorem ps_mid (h : PS X st t) : PS X st (tMid t) := by
  intro pins s σ H D I q
  obtain ⟨M, q, k⟩ := q
  refine thn (h pins s σ H _ I q) fun f s1 z => ?_
  cases f with
  | next => exact let ⟨σ', H', I', z⟩ := z; ⟨σ', H', I', k _ _ z⟩
  | ret v => exact z
  | brk => exact z
  | cont => exact z
def tMidE (te : TE) : TE := fun σ H Q => ∃ M : VK, te σ H M ∧ ∀ v H', M v H' → Q v H'
end
end L2

namespace L2
open PySem PySem.Spec PyProof.Rows
/-- a class without an __init__ of its own, none above it -/
structure MkN (K : PySem.W.Frag) (C : Addr) : Prop where
  makes : PySem.W.makesIn K C = true
  init : PySem.W.findIn K (.ref C) "__init__" = some (some (.builtin "object.__init__"))
  kp : PySem.W.keepIn K (.ref C) = true
def tMakeN (C : Addr) : TE := fun _ H Q => ∀ x dx, H x = none → H dx = none → dx ≠ x → Q (.ref x) (upd (upd H dx (.own x)) x (.ins C dx []))
section
variable {X : Cx} {C : Addr} {x : Str} {p pos : Pos}
theorem pe_makeN (M : MkN X.K C) (hg : Gl X x) (hm : X.mg x = some (.ref C)) (hdb : (x == ("__debug__" : Str)) = false := by decide) : PE X (.Call (.Name x p) [] [] pos) (tMakeN C) := by
  intro pins s σ H Q I h
  refine wpAny_Call_Name_kw (ld_glob I hg hm ?_ hdb)
  refine PySem.W.callWith_K0 I.kIn M.kp ?_
  have I2 := Inv.made (C := C) I
  have q := h (s.heap.objs.size + 1) s.heap.objs.size (I.hok.fresh (Nat.le_succ _)) (I.hok.fresh (Nat.le_refl _)) (Nat.ne_of_lt (Nat.lt_succ_self _))
  refine wpAny_call (make_map0 I.kIn M.makes M.init (fun self => PySem.W.Looks.of_pure (PySem.W.oi_bind self)) ?_)
  have Y := PySem.W.makes_of (M := model X.prog X.w) I.kIn M.makes
  have e2 : ((s.heap.push PySem.W.emptyDict).push (PySem.W.instObj C s.heap.objs.size)).get? (s.heap.objs.size + 1) = some (PySem.W.instObj C s.heap.objs.size) := by
    have := Heap.get?_push_size (s.heap.push PySem.W.emptyDict) (o := PySem.W.instObj C s.heap.objs.size) rfl
    rwa [Heap.size_push] at this
  have t1 : PySem.W.Looks (model X.prog X.w) ((s.heap.push PySem.W.emptyDict).push (PySem.W.instObj C s.heap.objs.size)) (typeOf (.ref (s.heap.objs.size + 1))) (.ref C) := (PySem.W.Looks.ld e2).andThen .now
  have kp : ∀ b o, s.heap.get? b = some o → ((s.heap.push PySem.W.emptyDict).push (PySem.W.instObj C s.heap.objs.size)).get? b = some o := fun b o e => Heap.get?_push_of_some _ (Heap.get?_push_of_some _ e)
  have t2 : PySem.W.Looks (model X.prog X.w) ((s.heap.push PySem.W.emptyDict).push (PySem.W.instObj C s.heap.objs.size)) (isInstance (.ref (s.heap.objs.size + 1)) (.type "object")) true := t1.andThen (Y.top.keeps kp)
  refine codeAny_call_builtin PySem.W.oi_plain PySem.W.entry_oi (PySem.W.check_slot PySem.W.oi_kind PySem.W.oi_split t2 (PySem.W.oi_args _) ?_)
  rw [PySem.W.oi_run]
  exact wpAny_pure ⟨rfl, .ref (s.heap.objs.size + 1), _, I2, rfl, q⟩
end
end L2

namespace L2
open PySem PySem.Spec PyProof.Rows
/-! ### a comprehension one of whose own names is a cell (another one stands within it) -/
structure Sees1 (X : Cx) (scope : Scope) (cl : List (Str × Addr)) (x0 : Str) : Prop where
  kind : scope.kind = .function
  clos : closureFor scope X.env = pure cl
  one : ∀ n acc, cellsFrom n scope.names acc = (x0, n) :: acc
  push : ∀ h, pushCells h scope.names = h.push { cls := .type "cell", data := .cell none }
  names : ∀ y ∈ scope.names, y.2 = .local → scope.names.lookup y.1 = some .local
  sub : ∀ x c, cl.lookup x = some c → X.env.cells.lookup x = some c
  has : ∀ x, ((compEnvC scope cl 0 X.env).kindOf x = some .cell ∨ (compEnvC scope cl 0 X.env).kindOf x = some .free) → x = x0 ∨ ∃ c, cl.lookup x = some c
abbrev Cx.comp1 (X : Cx) (scope : Scope) (cl : List (Str × Addr)) (x0 : Str) (NY : List Str) (s3 : Shared) (H3 : Hp) (fp : List Addr) : Cx :=
  { X with N := NY, s₀ := s3, H₀ := H3, env := compEnvC scope ((x0, s3.heap.objs.size + 1) :: cl) s3.heap.objs.size X.env, outer := X.stack, ex := fp, fn := fun y => y == x0, pn := [], xe := fun _ _ => False }
theorem look1 {x x0 : Str} {c n : Addr} {cl : List (Str × Addr)} (h : ((x0, n) :: cl).lookup x = some c) : (x = x0 ∧ c = n) ∨ (x ≠ x0 ∧ cl.lookup x = some c) := by
  rw [List.lookup_cons] at h
  cases z : x == x0 with
  | true => rw [z] at h; cases h; exact .inl ⟨beq_iff_eq.mp z, rfl⟩
  | false => rw [z] at h; exact .inr ⟨fun q => by rw [q] at z; simp at z, h⟩
section
variable {X : Cx} {pins : List (Addr × Obj)} {σ : St} {H3 : Hp} {s3 : Shared} {scope : Scope} {cl : List (Str × Addr)} {x0 : Str} {NY : List Str} {fp : List Addr}
theorem old_cell (I : Inv X pins σ H3 s3) (sub : ∀ x c, cl.lookup x = some c → X.env.cells.lookup x = some c) {x : Str} {c : Addr} (h : cl.lookup x = some c) : c < s3.heap.objs.size := by
  obtain ⟨_, o, z, _⟩ := I.cell x c (sub _ _ h)
  exact Heap.lt_size z
theorem comp1_ok (I : Inv X pins σ H3 s3) (S : Sees1 X scope cl x0) (hfp : ∀ b ∈ fp, FpOk X pins H3 b) (hob : ∀ b ∈ fp, ∃ o, s3.heap.get? b = some o) : (X.comp1 scope cl x0 NY s3 H3 fp).Ok where
  mod := I.ok.mod
  kind := S.kind
  glob := I.ok.glob
  blt := I.ok.blt
  above := Nat.le_refl _
  inj := fun x y c a b => by
    rcases look1 a with ⟨a1, a2⟩ | ⟨a1, a2⟩ <;> rcases look1 b with ⟨b1, b2⟩ | ⟨b1, b2⟩
    · rw [a1, b1]
    · exact absurd (old_cell I S.sub b2) (by rw [a2]; exact Nat.not_lt.mpr (Nat.le_succ _))
    · exact absurd (old_cell I S.sub a2) (by rw [b2]; exact Nat.not_lt.mpr (Nat.le_succ _))
    · exact I.ok.inj x y c (S.sub _ _ a2) (S.sub _ _ b2)
  has := fun x h => by
    by_cases z : x = x0
    · subst z
      exact ⟨s3.heap.objs.size + 1, by show List.lookup x ((x, _) :: cl) = _; rw [List.lookup_cons]; simp⟩
    · rcases S.has x h with y | ⟨c, y⟩
      · exact absurd y z
      · refine ⟨c, ?_⟩
        show List.lookup x ((x0, _) :: cl) = _
        rw [List.lookup_cons, show (x == x0) = false by simp [z]]
        exact y
  cab := fun x c h q => by
    rcases look1 q with ⟨_, q2⟩ | ⟨q1, _⟩
    · rw [q2]; exact Nat.le_succ _
    · exact absurd (beq_iff_eq.mp h) q1
  hd := I.ok.hd
  frames := I.ok.frames
  stk := .inl rfl
  exf := fun b hb => ⟨fun z => by
    obtain ⟨o, q⟩ := hob b hb
    exact absurd (Heap.lt_size q) (by rw [z]; exact Nat.lt_irrefl _), fun x c q => by
    rcases look1 q with ⟨_, q2⟩ | ⟨_, q2⟩
    · obtain ⟨o, q⟩ := hob b hb
      rw [q2]
      exact Nat.ne_of_gt (Nat.lt_succ_of_lt (Heap.lt_size q))
    · exact (hfp b hb).2.2.2.2.1 x c (S.sub _ _ q2)⟩
  bs := I.bs
  bsz := Nat.le_trans I.ok.bsz I.sz
  noex := fun b o q hb => by
    rcases (hfp b hb).2.2.2.1 with z | z
    · exact I.ok.noex b o q z
    · exact absurd (Nat.lt_of_lt_of_le (Heap.lt_size q) (Nat.le_trans I.ok.bsz z)) (Nat.lt_irrefl _)
  exfs := fun b hb z => by
    rcases List.mem_cons.mp (I.stkSub b z) with y | y
    · exact (hfp b hb).2.1 y
    · exact (hfp b hb).2.2.1 y
  funs := I.stack
  frf := I.stkFree
theorem comp1_inv {h1 : Heap} {t : Nat} {σY : St} (I : Inv X pins σ H3 s3) (S : Sees1 X scope cl x0) (hfp : ∀ b ∈ fp, FpOk X pins H3 b) (hob : ∀ b ∈ fp, ∃ o, s3.heap.get? b = some o)
    (hn : h1.Ns s3.heap.objs.size fun _ => none) (hc1 : h1.IsCell (s3.heap.objs.size + 1) none) (hk : ∀ b o, s3.heap.get? b = some o → h1.get? b = some o) (hl : σY.length = NY.length)
    (hσ : ∀ (i : Nat) (x : Str) (v : V), NY[i]? = some x → σY[i]? = some (some v) → ∃ c u, x ≠ x0 ∧ (((compEnvC scope cl 0 X.env).kindOf x = some .cell ∨ (compEnvC scope cl 0 X.env).kindOf x = some .free)) ∧ cl.lookup x = some c ∧ RelV v u ∧ s3.heap.IsCell c (some u)) :
    Inv (X.comp1 scope cl x0 NY s3 H3 fp) [] σY H3 { s3 with heap := h1, toks := t } where
  ok := comp1_ok I S hfp hob
  os := rfl
  bare := I.bare
  base := Un.kept hk
  loc := ⟨_, hn, fun i x v e1 e2 _ => by
    obtain ⟨c, u, n, k, q, r, z⟩ := hσ i x v e1 e2
    obtain ⟨o, z1, z2⟩ := z
    refine ⟨u, r, .inr ⟨k, c, ?_, o, hk _ _ z1, z2⟩⟩
    show List.lookup x ((x0, _) :: cl) = _
    rw [List.lookup_cons, show (x == x0) = false by simp [n]]
    exact q⟩
  cell := fun x c q => by
    rcases look1 q with ⟨_, q2⟩ | ⟨_, q2⟩
    · rw [q2]; exact ⟨none, hc1⟩
    · obtain ⟨v, o, z1, z2⟩ := I.cell x c (S.sub _ _ q2)
      exact ⟨v, o, hk _ _ z1, z2⟩
  free := I.hok.fresh (Nat.le_refl _)
  freeC := fun x c q => by
    rcases look1 q with ⟨_, q2⟩ | ⟨_, q2⟩
    · rw [q2]; exact I.hok.fresh (Nat.le_succ _)
    · exact I.freeC x c (S.sub _ _ q2)
  pin := fun p hp => absurd hp (by simp)
  hok := I.hok.kept hk
  len := hl
theorem comp1_back {Y : List (Addr × Obj)} {σY : St} {H' : Hp} {s' : Shared} {h' : Heap} (I : Inv X pins σ H3 s3) (hfp : ∀ b ∈ fp, FpOk X pins H3 b) (J : Inv (X.comp1 scope cl x0 NY s3 H3 fp) Y σY H' s') (hs : Heap.SameBut s3.heap.objs.size s'.heap h') :
    Inv X pins σ H' { s' with heap := h' } := by
  have ne : ∀ b o, s3.heap.get? b = some o → b ≠ s3.heap.objs.size := fun b o q => Nat.ne_of_lt (Heap.lt_size q)
  have B := J.base
  refine I.call' (s' := { s' with heap := h' }) (ch := fp) J.os ⟨fun b o q n hb hx => ?_, fun b o q n hb hx => ?_, B.free, fun b o q hx => ?_, B.tups, B.frzs, B.tbls⟩ (fun b o q => ?_) J.bare fun b hb => ?_
  · exact (hs.2 b (ne b o q)).trans (B.keep b o q n hb hx)
  · obtain ⟨sl, z⟩ := B.slot b o q n hb hx
    exact ⟨sl, (hs.2 b (ne b o q)).trans z⟩
  · obtain ⟨o', z⟩ := B.there b o q hx
    exact ⟨o', (hs.2 b (ne b o q)).trans z⟩
  · have hf : H' s3.heap.objs.size = none := J.free
    refine (J.hok b o q).stay (fun c v hc r => (hs.2 c ?_).trans r) (fun _ z => z) fun _ _ z => z
    rintro rfl
    rcases hc with z | z
    · rw [← z, hf] at q; cases q
    · rw [hf] at z; cases z
  · obtain ⟨_, f2, _, f4, f5, f6⟩ := hfp b hb
    exact ⟨f4, f2, f5, f6⟩
end
theorem new_env1 {M : Model} {A : Around} {E : Value → Shared → Prop} {s : Shared} {scope : Scope} {globals : Addr} {cl : List (Str × Addr)} {x0 : Str} {qual : Str} {env : Env} {Q : Env → Shared → Prop}
    (one : ∀ n acc, cellsFrom n scope.names acc = (x0, n) :: acc) (push : ∀ h, pushCells h scope.names = h.push { cls := .type "cell", data := .cell none })
    (h : Q (newEnv scope s.heap.objs.size globals ((x0, s.heap.objs.size + 1) :: cl) qual none .none (some env) builtinsNs) { s with heap := (s.heap.push { cls := .type "dict", data := .dict #[] }).push { cls := .type "cell", data := .cell none } }) :
    wpAny M A (newFunctionEnv scope globals cl [] qual none .none (some env)) Q E s := by
  simp only [newFunctionEnv, Option.isSome_some, if_true]
  refine wpAny_bind (wpAny_alloc ?_)
  refine wpAny_bind (wpAny_layCells _ (fun name kind cells => by cases hkc : kind == NameKind.cell <;> simp [hkc]) _ _ _ _ ?_)
  rw [one, push]
  rw [show ({ s with heap := s.heap.push { cls := .type "dict", data := .dict #[] } } : Shared).heap.objs.size = s.heap.objs.size + 1 from Heap.size_push ..]
  rw [List.forIn_nil]
  exact wpAny_bind (wpAny_pure (wpAny_pure h))
section
variable {X : Cx} {tg : Expr}
theorem comp_core1 {iter elt : Expr} {scope : Scope} {pos pos' : Pos} {cl : List (Str × Addr)} {x0 : Str} {NY : List Str} {wi : TI} {g : TG} {te : TE} {σ0 : St → Hp → St → Prop} (hc : X.calm = true) (S : Sees1 X scope cl x0) (hi : PI X tg iter wi)
    (hY : ∀ (s3 : Shared) (H3 : Hp) (fp : List Addr), PG (X.comp1 scope cl x0 NY s3 H3 fp) tg g ∧ PE (X.comp1 scope cl x0 NY s3 H3 fp) elt te)
    (h0 : ∀ (pins : List (Addr × Obj)) (σ : St) (H : Hp) (s3 : Shared) (σY : St), Inv X pins σ H s3 → σ0 σ H σY → σY.length = NY.length ∧ ∀ (i : Nat) (x : Str) (v : V), NY[i]? = some x → σY[i]? = some (some v) →
      ∃ c u, x ≠ x0 ∧ (((compEnvC scope cl 0 X.env).kindOf x = some .cell ∨ (compEnvC scope cl 0 X.env).kindOf x = some .free)) ∧ cl.lookup x = some c ∧ RelV v u ∧ s3.heap.IsCell c (some u))
    (hs : ∀ x, foldedSetIterable iter X.env x = pure x) {use : Option (Value → Sem Unit)} {R : Value → Shared → Prop} {pins : List (Addr × Obj)} {s : Shared} {σ : St} {H : Hp} {Q : VK} (I : Inv X pins σ H s) (h : tComp wi g te σ0 σ H Q)
    (fin : ∀ (C D : Addr) (H5 : Hp) (s6 : Shared), CompEnd X pins σ H5 s6 C → Q (.ref D) H5 → compPost (model X.prog X.w) X.A X.xe use R (.ref D) C (.ok .next) s6) :
    wpAny (model X.prog X.w) X.A (comprehension (.ListComp elt [⟨tg, iter, [], 0⟩] scope pos) scope X.env pos' (newList []) (firstAsync [⟨tg, iter, [], 0⟩]) (firstIter [⟨tg, iter, [], 0⟩] X.env) use) R X.xe s := by
  refine wpAny_comprehension_free rfl hs S.clos S.kind S.names (thn (hi pins s σ H _ I h) fun v s1 h1 => thn h1 fun itv s2 h2 => ?_)
  obtain ⟨it, fp, tn, J, H2, e, I2, T, st2, f2, σY, hσ, hW⟩ := h2
  subst e
  refine wpAny_newObj_type ?_
  have I3 : Inv X pins σ (upd H2 s2.heap.objs.size (.lst [])) { s2 with heap := s2.heap.push { cls := .type "list", data := .seq ([] : List Value).toArray } } := I2.lnew (t' := s2.toks) (its := []) .nil (Nat.zero_le _)
  obtain ⟨W, ⟨m0, w0⟩, turn⟩ := hW s2.heap.objs.size (I2.hok.fresh (Nat.le_refl _))
  have ob2 := T.obj _ _ st2
  have hfp : ∀ b ∈ fp, FpOk X pins (upd H2 s2.heap.objs.size (.lst [])) b := fun b hb => by
    obtain ⟨o, q, _⟩ := ob2 b hb
    exact ⟨by rw [upd_ne (Nat.ne_of_lt (Heap.lt_size q))]; exact (f2 b hb).1, (f2 b hb).2⟩
  have hob : ∀ b ∈ fp, ∃ o, (s2.heap.push { cls := .type "list", data := .seq ([] : List Value).toArray }).get? b = some o := fun b hb => by
    obtain ⟨o, q, _⟩ := ob2 b hb
    exact ⟨o, Heap.get?_push_of_some _ q⟩
  refine new_env1 S.one S.push ?_
  obtain ⟨hl, hY0⟩ := h0 pins σ H2 s2 σY I2 hσ
  have k23 : ∀ b o, s2.heap.get? b = some o → (s2.heap.push { cls := .type "list", data := .seq ([] : List Value).toArray }).get? b = some o := fun b o q => Heap.get?_push_of_some _ q
  obtain ⟨S3, hS3⟩ : ∃ S3 : Shared, S3 = { s2 with heap := s2.heap.push { cls := .type "list", data := .seq ([] : List Value).toArray } } := ⟨_, rfl⟩
  have k23' : ∀ b o, s2.heap.get? b = some o → S3.heap.get? b = some o := by rw [hS3]; exact k23
  rw [← hS3] at I3 ⊢
  have hob' : ∀ b ∈ fp, ∃ o, S3.heap.get? b = some o := by rw [hS3]; exact hob
  obtain ⟨h1, hh1⟩ : ∃ h1, h1 = (S3.heap.push { cls := .type "dict", data := .dict #[] }).push { cls := .type "cell", data := .cell none } := ⟨_, rfl⟩
  rw [← hh1]
  have k34 : ∀ b o, S3.heap.get? b = some o → h1.get? b = some o := fun b o q => by rw [hh1]; exact Heap.get?_push_of_some _ (Heap.get?_push_of_some _ q)
  have hn1 : h1.Ns S3.heap.objs.size fun _ => none := by rw [hh1]; exact (Heap.Ns.new S3.heap (.type "dict")).keeps fun b o e => Heap.get?_push_of_some _ e
  have hc1 : h1.IsCell (S3.heap.objs.size + 1) none := by
    rw [hh1]
    have e := Heap.get?_push_size (S3.heap.push { cls := .type "dict", data := .dict #[] }) (o := { cls := .type "cell", data := .cell none }) rfl
    rw [Heap.size_push] at e
    exact ⟨_, e, rfl⟩
  have I4 := comp1_inv (scope := scope) (cl := cl) (x0 := x0) (NY := NY) (fp := fp) (h1 := h1) (t := S3.toks) (σY := σY) I3 S hfp hob' hn1 hc1 k34 hl fun i x v e1 e2 => by
    obtain ⟨c, u, n, k, q, r, o, z1, z2⟩ := hY0 i x v e1 e2
    exact ⟨c, u, n, k, q, r, o, k23' _ _ z1, z2⟩
  have st4 : tn 0 h1 := T.keep _ _ _ st2 fun b hb o q => k34 _ _ (k23' _ _ q)
  have fr4 : ∀ b ∈ fp, (upd H2 s2.heap.objs.size (.lst [])) b = none := fun b hb => (hfp b hb).1
  obtain ⟨hg, he⟩ := hY S3 (upd H2 s2.heap.objs.size (.lst [])) fp
  have okY := I4.ok
  have statY : ∀ {H' : Hp}, (∀ b ∈ fp, H' b = none) → ∀ b ∈ fp, FpOk (X.comp1 scope cl x0 NY S3 (upd H2 s2.heap.objs.size (.lst [])) fp) [] H' b :=
    fun hn b hb => ⟨hn b hb, (okY.exf b hb).1, okY.exfs b hb, .inl hb, (okY.exf b hb).2, fun p hp => absurd hp (by simp)⟩
  have loop : codeAny (model X.prog X.w) X.A (.compLoop (.ListComp elt [⟨tg, iter, [], 0⟩] scope pos) 0 (.ref it) (.ref s2.heap.objs.size) (compEnvC scope ((x0, S3.heap.objs.size + 1) :: cl) S3.heap.objs.size X.env))
      (compPost (model X.prog X.w) X.A X.xe use R (.ref s2.heap.objs.size) S3.heap.objs.size) { S3 with heap := h1, toks := S3.toks } := by
    refine comp_loop (fun n s' => ∃ i σ' H', Inv (X.comp1 scope cl x0 NY S3 (upd H2 s2.heap.objs.size (.lst [])) fp) [] σ' H' s' ∧ tn i s'.heap ∧ (∀ b ∈ fp, H' b = none) ∧ W i n σ' H') ?_ m0 ⟨0, σY, _, I4, st4, fr4, w0⟩
    rintro n s5 ⟨i, σ5, H5, I5, st5, fr5, w5⟩
    rcases turn i n σ5 H5 w5 with ⟨stop, q⟩ | ⟨go, N, hN, step⟩
    · refine thn (T.done (X.comp1 scope cl x0 NY S3 (upd H2 s2.heap.objs.size (.lst [])) fp) rfl rfl rfl hc i [] s5 σ5 H5 _ I5 (statY fr5) st5 stop) fun r s6 ⟨hr, I6⟩ => ?_
      subst hr
      obtain ⟨m, hm, _⟩ := I6.loc
      refine fin _ _ H5 s6 ⟨⟨m, hm⟩, I6.free, Ne.symm (Nat.ne_of_lt I3.lt), I3.sz, fun x c z => ?_, fun p hp => ?_, fun h' hs' => comp1_back I3 hfp I6 hs'⟩ q
      · obtain ⟨_, o, z1, _⟩ := I3.cell x c z
        exact Nat.ne_of_lt (Heap.lt_size z1)
      · exact Nat.ne_of_lt (Heap.lt_size (I3.pin p hp).1)
    · refine thn (T.item (X.comp1 scope cl x0 NY S3 (upd H2 s2.heap.objs.size (.lst [])) fp) rfl rfl rfl hc i [] s5 σ5 H5 _ I5 (statY fr5) st5 go) fun r s6 ⟨u, hr, h6⟩ => ?_
      subst hr
      refine thn h6 fun _ s7 ⟨x, H7, I7, r7, y7, st7, fr7⟩ => ?_
      have I7' := I7.pinned (statY fr7) (T.obj _ _ st7)
      refine thn (hg _ s7 σ5 H7 x u _ I7' r7 (step x H7 y7)) fun _ s8 ⟨σ8, H8, I8, q8⟩ => ?_
      refine thn (he _ s8 σ8 H8 _ I8 q8) fun z s9 ⟨v9, H9, I9, r9, xs, hx9, hz9, n9⟩ => ?_
      refine thn (mt_append _ s9 σ8 H9 (.ref s2.heap.objs.size) [v9] (.ref s2.heap.objs.size) [z] (fun _ H' => H' = upd H9 s2.heap.objs.size (.lst (xs ++ [v9]))) I9 rfl (.cons r9 .nil) ⟨s2.heap.objs.size, xs, v9, rfl, rfl, hx9, hz9, rfl⟩) fun y s10 ⟨v10, H10, I10, _, e10⟩ => ?_
      subst e10
      obtain ⟨m', hm, w10⟩ := hN _ _ n9
      refine ⟨m', hm, i + 1, σ8, _, I10.unpinned, T.keep _ _ _ st7 fun b hb o q => (I10.pin (b, o) (List.mem_append_right _ (List.mem_append_right _ (mem_pinsAt hb q)))).1, fun b hb => ?_, w10⟩
      obtain ⟨o, q, d⟩ := T.obj _ _ st7 b hb
      exact (I10.pin (b, o) (List.mem_append_right _ (List.mem_append_right _ (mem_pinsAt hb q)))).2.1
  exact codeAny_compStart_list loop (T.self _ 0 _ _ _ st4 loop)
end
def seesOk1 (X : Cx) (scope : Scope) (x0 : Str) : Bool :=
  (match scope.kind with | .function => true | _ => false) && scope.names.all fun y => match y.2 with
    | .cell => y.1 == x0
    | .free => (match X.env.kindOf y.1 with | some .cell => true | some .free => true | _ => false)
    | .local => (match scope.names.lookup y.1 with | some .local => true | _ => false)
    | _ => true
theorem mem_lookup {x : Str} {k : NameKind} : ∀ {l : List (Str × NameKind)}, l.lookup x = some k → (x, k) ∈ l
  | [], q => by cases q
  | (a1, a2) :: l, q => by
    rw [List.lookup_cons] at q
    cases hx : x == a1 with
    | true => rw [hx] at q; cases q; have := beq_iff_eq.mp hx; subst this; exact List.mem_cons_self
    | false => rw [hx] at q; exact List.mem_cons_of_mem _ (mem_lookup q)
theorem sees1_of {X : Cx} {scope : Scope} {x0 : Str} (ok : X.Ok) (h : seesOk1 X scope x0 = true) (one : ∀ n acc, cellsFrom n scope.names acc = (x0, n) :: acc) (push : ∀ h, pushCells h scope.names = h.push { cls := .type "cell", data := .cell none }) : Sees1 X scope (clOf X.env scope) x0 := by
  unfold seesOk1 at h
  rw [Bool.and_eq_true, List.all_eq_true] at h
  obtain ⟨hk, hn⟩ := h
  have fr : ∀ y ∈ scope.names, y.2 = .free → ∃ c, X.env.cells.lookup y.1 = some c := fun y hy e => by
    have q := hn y hy
    rw [e] at q
    refine ok.has y.1 ?_
    revert q
    dsimp only
    split
    · rename_i z; intro _; exact .inl z
    · rename_i z; intro _; exact .inr z
    · intro q; cases q
  refine ⟨?_, closure_of fr, one, push, fun y hy e => ?_, fun x c q => clGo_sub fr (fun _ _ z => by cases z) q, fun x q => ?_⟩
  · revert hk
    cases scope.kind <;> simp
  · have q := hn y hy
    rw [e] at q
    revert q
    dsimp only
    split
    · rename_i z; intro _; exact z
    · intro q; cases q
  · have key : ∀ k, (compEnvC scope (clOf X.env scope) 0 X.env).kindOf x = some k → (k = .cell ∨ k = .free) → x = x0 ∨ (x, NameKind.free) ∈ scope.names := by
      intro k hk' hkk
      have m : (x, k) ∈ (scope.names.map fun y => match y with | (n, k) => if (k == NameKind.free && X.env.scope.kind == ScopeKind.function && X.env.kindOf n == some NameKind.cell) = true then (n, NameKind.cell) else (n, k)) := mem_lookup hk'
      obtain ⟨⟨n, k'⟩, e1, e2⟩ := List.mem_map.mp m
      dsimp only at e2
      split at e2
      · rename_i z
        cases e2
        simp only [Bool.and_eq_true, beq_iff_eq] at z
        rw [z.1.1] at e1
        exact .inr e1
      · cases e2
        rcases hkk with rfl | rfl
        · have z := hn _ e1
          exact .inl (beq_iff_eq.mp z)
        · exact .inr e1
    rcases q with q | q
    · exact (key _ q (.inl rfl)).imp id clGo_has
    · exact (key _ q (.inr rfl)).imp id clGo_has
def capOk1 (X : Cx) (scope : Scope) (x0 : Str) : List Str → List (Option Nat) → Bool
  | [], [] => true
  | _ :: r, none :: c => capOk1 X scope x0 r c
  | x :: r, some j :: c => (match X.N[j]? with | some y => x == y | none => false) && (match (compEnvC scope (clOf X.env scope) 0 X.env).kindOf x with | some .cell => true | some .free => true | _ => false)
      && (match X.env.kindOf x with | some .cell => true | some .free => true | _ => false) && !(x == x0) && capOk1 X scope x0 r c
  | _, _ => false
theorem capt_ok1 {X : Cx} {scope : Scope} {x0 : Str} {pins : List (Addr × Obj)} {σ : St} {H : Hp} {s : Shared} (I : Inv X pins σ H s) (S : Sees1 X scope (clOf X.env scope) x0) : ∀ {NY : List Str} {cap : List (Option Nat)}, capOk1 X scope x0 NY cap = true → (capt cap σ).length = NY.length ∧ ∀ (i : Nat) (x : Str) (v : V), NY[i]? = some x → (capt cap σ)[i]? = some (some v) →
      ∃ c u, x ≠ x0 ∧ (((compEnvC scope (clOf X.env scope) 0 X.env).kindOf x = some .cell ∨ (compEnvC scope (clOf X.env scope) 0 X.env).kindOf x = some .free)) ∧ (clOf X.env scope).lookup x = some c ∧ RelV v u ∧ s.heap.IsCell c (some u)
  | [], [], _ => ⟨rfl, fun i x v e _ => by cases e⟩
  | [], _ :: _, h => by cases h
  | y :: r, [], h => by cases h
  | y :: r, none :: c, h => by
    obtain ⟨l, q⟩ := capt_ok1 I S (NY := r) (cap := c) h
    refine ⟨by rw [List.length_cons, ← l]; rfl, fun i x v e1 e2 => ?_⟩
    cases i with
    | zero => cases e2
    | succ i => exact q i x v e1 e2
  | y :: r, some j :: c, h => by
    unfold capOk1 at h
    rw [Bool.and_eq_true, Bool.and_eq_true, Bool.and_eq_true, Bool.and_eq_true] at h
    obtain ⟨⟨⟨⟨h1, h2⟩, h3⟩, h5⟩, h4⟩ := h
    obtain ⟨l, q⟩ := capt_ok1 I S (NY := r) (cap := c) h4
    have hne : y ≠ x0 := fun z => by rw [z] at h5; simp at h5
    refine ⟨by rw [List.length_cons, ← l]; rfl, fun i x v e1 e2 => ?_⟩
    cases i with
    | succ i => exact q i x v e1 e2
    | zero =>
      have ey : y = x := Option.some.inj e1
      subst ey
      have ev : (σ[j]?).join = some v := Option.some.inj e2
      have hσ : σ[j]? = some (some v) := by
        cases z : σ[j]? with
        | none => rw [z] at ev; cases ev
        | some o => rw [z] at ev; rw [show o = some v from ev]
      have hN : X.N[j]? = some y := by
        cases z : X.N[j]? with
        | none => rw [z] at h1; cases h1
        | some y' => rw [z] at h1; rw [beq_iff_eq.mp h1]
      have hK : (compEnvC scope (clOf X.env scope) 0 X.env).kindOf y = some .cell ∨ (compEnvC scope (clOf X.env scope) 0 X.env).kindOf y = some .free := by
        revert h2
        split
        · rename_i z; intro _; exact .inl z
        · rename_i z; intro _; exact .inr z
        · intro q; cases q
      have hV : X.env.kindOf y = some .cell ∨ X.env.kindOf y = some .free := by
        revert h3
        split
        · rename_i z; intro _; exact .inl z
        · rename_i z; intro _; exact .inr z
        · intro q; cases q
      rcases S.has y hK with z | ⟨c', hc'⟩
      · exact absurd z hne
      obtain ⟨m, _, hl⟩ := I.loc
      obtain ⟨u, ru, lk⟩ := hl j y v hN hσ (.inr hV)
      refine ⟨c', u, hne, hK, hc', ru, ?_⟩
      rcases lk with ⟨k, _⟩ | ⟨_, c2, e3, e4⟩
      · have k' : X.env.kindOf y = some .local := k
        rcases hV with z | z <;> rw [z] at k' <;> cases k'
      · have e5 := S.sub _ _ hc'
        rw [e3] at e5
        cases e5
        exact e4
section
variable {X : Cx} {tg : Expr}
/-- y = [e for x in it], x a cell (e holds a comprehension that reads it), y a plain local name -/
theorem ps_comp1 {iter elt : Expr} {scope : Scope} {pos pos' spos : Pos} {wi : TI} {g : TG} {te : TE} {i : Nat} {y : Str} (x0 : Str) (NY : List Str) (cap : List (Option Nat)) (hc : X.calm = true) (hk : seesOk1 X scope x0 = true) (one : ∀ n acc, cellsFrom n scope.names acc = (x0, n) :: acc) (push : ∀ h, pushCells h scope.names = h.push { cls := .type "cell", data := .cell none }) (hcap : capOk1 X scope x0 NY cap = true) (hi : PI X tg iter wi)
    (hY : ∀ (s3 : Shared) (H3 : Hp) (fp : List Addr), PG (X.comp1 scope (clOf X.env scope) x0 NY s3 H3 fp) tg g ∧ PE (X.comp1 scope (clOf X.env scope) x0 NY s3 H3 fp) elt te) (hN : X.N.Nodup) (hi' : X.N[i]? = some y) (hx : Loc X.env.scope y)
    (hf : X.fn y = true ∨ X.env.scope.names.lookup y = some .local := by first | exact .inl rfl | exact .inr rfl) (hw : swapsWith (.ListComp elt [⟨tg, iter, [], 0⟩] scope pos) (some (.Name y pos')) spos.line X.env = pure true := by rfl)
    (hs : ∀ x, foldedSetIterable iter X.env x = pure x := by intro _; rfl) : PS X (.Assign [.Name y pos'] (.ListComp elt [⟨tg, iter, [], 0⟩] scope pos) spos) (tAsg (tCompC wi g te cap) (gName i)) := by
  intro pins s σ H D I h
  rw [exec_Assign_Name_used _ _ _ _ hw, arm_evalThenUse_ListComp]
  refine wpAny_bind (wpAny_standAt (wpAny_bind (wpAny_bind (wpAny_mono (comp_core1 (σ0 := fun σ _ σY => σY = capt cap σ) (Q := fun v H1 => gName i v σ H1 D.nx) (use := some (assign (.Name y pos') X.env)) (R := fun _ s' => SP X pins D .next s') hc (sees1_of I.ok hk one push) hi hY (fun pins σ H s3 σY I3 e => by subst e; exact capt_ok1 I3 (sees1_of I3.ok hk one push) hcap) hs I h fun C L H5 s6 e q => ?_) (fun _ s' z => wpAny_pure (wpAny_pure z)) fun _ _ z => z))))
  obtain ⟨m, hm⟩ := e.ns
  have I6 : Inv X pins σ H5 s6 := e.inv s6.heap ⟨rfl, fun _ _ => rfl⟩
  refine wpAny_assign_Name (store_ok2 I6 hN hi' hx (v := .ref L) rfl (fun s' I' ⟨a, sb, ha⟩ => ?_) hf)
  have ne : C ≠ a := by
    rintro rfl
    rcases ha with z | z
    · exact e.hL z
    · exact e.h2 _ _ z rfl
  refine ⟨m, ?_, fun h' hs' => ?_⟩
  · obtain ⟨o, es, ep, z, r⟩ := hm
    exact ⟨o, es, ep, (sb.2 _ ne).trans z, r⟩
  · exact ⟨_, H5, I'.turned (t' := s'.toks) (it := C) (fun b o nb z => (hs'.2 b nb).trans z) e.hn e.hL (.inr e.h1) e.h2 e.h3, q⟩
end
end L2

namespace K08
open PySem L2 FM
def top (i : Nat) : Stmt := PySem.Challenge.pw_rowbreadth_k08_leaves.main.body.getD i (.Pass ⟨0, 0, 0, 0⟩)

abbrev s_start_of : Stmt := top 1
theorem sc_start_of : FnScope ["lengths", "row"] ["lengths", "row"] (defScope s_start_of) := ⟨rfl, rfl, rfl, by decide +kernel, rfl, by decide +kernel, by decide +kernel⟩
abbrev s_lies_in : Stmt := top 4
theorem sc_lies_in : FnScope ["spot", "row", "place"] ["spot", "row", "place"] (defScope s_lies_in) := ⟨rfl, rfl, rfl, by decide +kernel, rfl, by decide +kernel, by decide +kernel⟩
abbrev s_cell_at : Stmt := top 5
theorem sc_cell_at : FnScope ["spot", "row", "place"] ["spot", "row", "place"] (defScope s_cell_at) := ⟨rfl, rfl, rfl, by decide +kernel, rfl, by decide +kernel, by decide +kernel⟩
abbrev s_l_whole : Stmt := top 13
theorem sc_l_whole : FnScope ["_law_found"] ["_law_found"] (defScope s_l_whole) := ⟨rfl, rfl, rfl, by decide +kernel, rfl, by decide +kernel, by decide +kernel⟩
abbrev s_l_kept_by : Stmt := top 14
theorem sc_l_kept_by : FnScope ["_law_cell", "_law_how", "_law_edges"] ["_law_cell"] (defScope s_l_kept_by) := ⟨rfl, rfl, rfl, by decide +kernel, rfl, by decide +kernel, by decide +kernel⟩
abbrev s_l_mix : Stmt := top 15
theorem sc_l_mix : FnScope ["_law_cell", "_law_factor", "_law_prime"] ["_law_cell", "_law_factor", "_law_prime"] (defScope s_l_mix) := ⟨rfl, rfl, rfl, by decide +kernel, rfl, by decide +kernel, by decide +kernel⟩
abbrev s_l_leaf_by : Stmt := top 16
theorem sc_l_leaf_by : FnScope ["_law_cell", "_law_row", "_law_number", "_law_how"] ["_law_cell", "_law_row", "_law_number"] (defScope s_l_leaf_by) := ⟨rfl, rfl, rfl, by decide +kernel, rfl, by decide +kernel, by decide +kernel⟩
abbrev s_l_by : Stmt := top 17
theorem sc_l_by : FnScope ["_law_cell"] ["_law_cell"] (defScope s_l_by) := ⟨rfl, rfl, rfl, by decide +kernel, rfl, by decide +kernel, by decide +kernel⟩
abbrev s_l_place_by : Stmt := top 18
theorem sc_l_place_by : FnScope ["_law_cell", "_law_how", "_law_length"] ["_law_cell", "_law_how", "_law_length"] (defScope s_l_place_by) := ⟨rfl, rfl, rfl, by decide +kernel, rfl, by decide +kernel, by decide +kernel⟩
abbrev s_l_fields : Stmt := top 19
theorem sc_l_fields : FnScope ["_law_leaf", "_law_how", "_law_row", "_law_by_here", "_law_number", "_law_at"] ["_law_leaf", "_law_how", "_law_row", "_law_by_here", "_law_number", "_law_at"] (defScope s_l_fields) := ⟨rfl, rfl, rfl, by decide +kernel, rfl, by decide +kernel, by decide +kernel⟩
abbrev s_l_due : Stmt := top 20
theorem sc_l_due : FnScope ["_law_how", "_law_part", "_law_place", "_law_by_here", "_law_number", "_law_given"] ["_law_how", "_law_part", "_law_place", "_law_by_here", "_law_number", "_law_given"] (defScope s_l_due) := ⟨rfl, rfl, rfl, by decide +kernel, rfl, by decide +kernel, by decide +kernel⟩
abbrev s_l_right : Stmt := top 21
theorem sc_l_right : FnScope ["_law_leaf", "_law_spot", "_law_due_here", "_law_first", "_law_again"] ["_law_leaf", "_law_spot", "_law_due_here"] (defScope s_l_right) := ⟨rfl, rfl, rfl, by decide +kernel, rfl, by decide +kernel, by decide +kernel⟩
abbrev s_l_spot_right : Stmt := top 22
theorem sc_l_spot_right : FnScope ["_law_spot", "_law_sizes", "_law_cells", "_law_place", "_law_own"] ["_law_spot", "_law_sizes", "_law_cells", "_law_place", "_law_own"] (defScope s_l_spot_right) := ⟨rfl, rfl, rfl, by decide +kernel, rfl, by decide +kernel, by decide +kernel⟩
abbrev s_l_one : Stmt := top 23
theorem sc_l_one : FnScope ["_law_cell", "_law_number", "_law_sizes", "_law_rows", "_law_how", "_law_row", "_law_place", "_law_at", "_law_own", "_law_given", "_law_j", "_law_leaf", "_law_cells", "_law_part", "_law_handed", "_law_held", "_law_spot", "_law_other"] ["_law_cell", "_law_number", "_law_sizes", "_law_rows"] (defScope s_l_one) := ⟨rfl, rfl, rfl, by decide +kernel, rfl, by decide +kernel, by decide +kernel⟩
abbrev s_law : Stmt := top 24
theorem sc_law : FnScope ["_law_script", "_law_count", "_law_sizes", "_law_cell", "_law_rows", "_law_k", "_law_j", "_law_row"] ["_law_script"] (defScope s_law) := ⟨rfl, rfl, rfl, by decide +kernel, rfl, by decide +kernel, by decide +kernel⟩
abbrev s_Spot_init : Stmt := inClass (top 3) 0
theorem sc_Spot_init : FnScope ["self", "lengths", "functions", "cells", "place", "own"] ["self", "lengths", "functions", "cells", "place", "own"] (defScope s_Spot_init) := ⟨rfl, rfl, rfl, by decide +kernel, rfl, by decide +kernel, by decide +kernel⟩
abbrev s_Number_init : Stmt := inClass (top 7) 0
theorem sc_Number_init : FnScope ["self", "number"] ["self", "number"] (defScope s_Number_init) := ⟨rfl, rfl, rfl, by decide +kernel, rfl, by decide +kernel, by decide +kernel⟩
abbrev s_Number_worth : Stmt := inClass (top 7) 1
theorem sc_Number_worth : FnScope ["self", "spot"] ["self", "spot"] (defScope s_Number_worth) := ⟨rfl, rfl, rfl, by decide +kernel, rfl, by decide +kernel, by decide +kernel⟩
abbrev s_Here_worth : Stmt := inClass (top 8) 0
theorem sc_Here_worth : FnScope ["self", "spot"] ["self", "spot"] (defScope s_Here_worth) := ⟨rfl, rfl, rfl, by decide +kernel, rfl, by decide +kernel, by decide +kernel⟩
abbrev s_Cell_init : Stmt := inClass (top 9) 0
theorem sc_Cell_init : FnScope ["self", "row"] ["self", "row"] (defScope s_Cell_init) := ⟨rfl, rfl, rfl, by decide +kernel, rfl, by decide +kernel, by decide +kernel⟩
abbrev s_Cell_worth : Stmt := inClass (top 9) 1
theorem sc_Cell_worth : FnScope ["self", "spot"] ["self", "spot"] (defScope s_Cell_worth) := ⟨rfl, rfl, rfl, by decide +kernel, rfl, by decide +kernel, by decide +kernel⟩
abbrev s_Shifted_init : Stmt := inClass (top 10) 0
theorem sc_Shifted_init : FnScope ["self", "row", "by", "other"] ["self", "row", "by", "other"] (defScope s_Shifted_init) := ⟨rfl, rfl, rfl, by decide +kernel, rfl, by decide +kernel, by decide +kernel⟩
abbrev s_Shifted_worth : Stmt := inClass (top 10) 1
theorem sc_Shifted_worth : FnScope ["self", "spot", "place"] ["self", "spot"] (defScope s_Shifted_worth) := ⟨rfl, rfl, rfl, by decide +kernel, rfl, by decide +kernel, by decide +kernel⟩
abbrev s_Local_init : Stmt := inClass (top 11) 0
theorem sc_Local_init : FnScope ["self", "at"] ["self", "at"] (defScope s_Local_init) := ⟨rfl, rfl, rfl, by decide +kernel, rfl, by decide +kernel, by decide +kernel⟩
abbrev s_Local_worth : Stmt := inClass (top 11) 1
theorem sc_Local_worth : FnScope ["self", "spot"] ["self", "spot"] (defScope s_Local_worth) := ⟨rfl, rfl, rfl, by decide +kernel, rfl, by decide +kernel, by decide +kernel⟩

section
variable {P : Program} {w : World} {K : PySem.W.Frag} {mg : Str → Option Value} {base : Heap}
def spKB : Sp := fun vs H Q _ => ∃ c, vs = [.int c] ∧ ∀ H', Same H H' → Q (.int (keptBy c)) H'
theorem ok_kept_by (d : DefIn K mg "_law_kept_by" s_l_kept_by ["_law_cell"]) : Ok P w K mg base (CXe P w base) 1 "_law_kept_by" ["_law_cell"] spKB := by
  obtain ⟨f, fd, m, F, b⟩ := d
  refine ⟨f, fd, m, F.kp, b, F.okE sc_l_kept_by (fun vs H Q E ⟨_, e, _⟩ => by rw [e]; rfl) fun cdv A outer s H vs Q E hr h => ?_⟩
  obtain ⟨c, rfl, k⟩ := h
  have nd := sc_l_kept_by.nd
  refine ⟨_, pss_cons (ps_set (i := 1) nd rfl (Or.inl rfl) (pe_op op_mod (pv 0) pe_int))
    (pss_cons (ps_if (pt_cmpR op_eq (pv 1) pe_int (nomark _)) (pss_one (ps_ret (pe_op op_sub (pe_op op_mod (pe_op op_fdiv (pv 0) pe_int) pe_int) pe_int))) pss_nil)
    (pss_cons (ps_if (pt_cmpR op_eq (pv 1) pe_int (nomark _)) (pss_cons (ps_set (i := 2) nd rfl (Or.inl rfl) (pe_lst (pa_cons (pe_un un_neg pe_int) (pa_cons pe_int (pa_cons (pe_un un_neg pe_int) (pa_cons pe_int (pa_cons (pe_un un_neg pe_int) (pa_cons pe_int pa_nil))))))))
      (pss_one (ps_ret (pe_ix ix_list (pv 2) (pe_op op_mod (pe_op op_fdiv (pv 0) pe_int) pe_int) (fun _ _ => rfl))))) pss_nil)
    (pss_cons (ps_if (pt_cmpR op_eq (pv 1) pe_int (nomark _)) (pss_one (ps_ret (pe_op op_sub (pe_op op_mod (pe_op op_mul (pe_op op_fdiv (pv 0) pe_int) pe_int) pe_int) pe_int))) pss_nil)
    (pss_one (ps_ret (pe_op op_sub (pe_op op_mod (pe_op op_mul (pe_op op_fdiv (pv 0) pe_int) pe_int) pe_int) pe_int)))))), ?_⟩
  refine ⟨_, rfl, _, _, rfl, rfl, (by show (0 : Int) < 4; decide), ?_⟩
  refine ⟨_, rfl, rfl, _, rfl, ?_⟩
  refine ite2 (fun z => ?_) (fun z => ?_)
  · have z : c % 4 = 0 := by simpa using z
    have e : keptBy c = c / 4 % 7 - 3 := by unfold keptBy; rw [if_pos z]
    rw [e] at k
    exact ⟨_, rfl, _, _, rfl, rfl, ⟨by decide, by decide⟩, _, _, rfl, rfl, (by show (0 : Int) < 7; decide), _, _, rfl, rfl, k H (Same.refl H)⟩
  have z0 : ¬ c % 4 = 0 := by simpa using z
  refine ⟨_, rfl, rfl, _, rfl, ?_⟩
  refine ite2 (fun z => ?_) (fun z => ?_)
  · have z1 : c % 4 = 1 := by simpa using z
    have e : keptBy c = edges.getD (c / 4 % 6).toNat 0 := by unfold keptBy; rw [if_neg z0, if_pos z1]
    rw [e] at k
    refine ⟨_, rfl, _, rfl, _, rfl, (by show 6 ≤ sizeLine; decide), fun l hl => ?_⟩
    refine ⟨_, rfl, _, rfl, _, _, rfl, rfl, ⟨by decide, by decide⟩, _, _, rfl, rfl, (by show (0 : Int) < 6; decide), l, edges.map V.int, _, V.int (edges.getD (c / 4 % 6).toNat 0), rfl, rfl, SqL.of upd_same, ?_, k _ fun b o q => by rw [upd_ne (ne_of_none q hl)]; exact q⟩
    have hz : (((c / 4 % 6).toNat : Nat) : Int) = c / 4 % 6 := by omega
    rw [← hz]
    exact atI_nat (edge_at _ (by omega)).1
  have z1 : ¬ c % 4 = 1 := by simpa using z
  refine ⟨_, rfl, rfl, _, rfl, ?_⟩
  refine ite2 (fun z => ?_) (fun z => ?_)
  · have z2 : c % 4 = 2 := by simpa using z
    have e : keptBy c = c / 4 * 48271 % 2001 - 1000 := by unfold keptBy; rw [if_neg z0, if_neg z1, if_pos z2]
    rw [e] at k
    exact ⟨_, rfl, _, _, rfl, rfl, ⟨by decide, by decide⟩, _, _, rfl, rfl, .inr ⟨by decide, by decide⟩, _, _, rfl, rfl, (by show (0 : Int) < 2001; decide), _, _, rfl, rfl, k H (Same.refl H)⟩
  have z2 : ¬ c % 4 = 2 := by simpa using z
  have e : keptBy c = c / 4 * 2862933555777941757 % 18446744073709551616 - 9223372036854775808 := by unfold keptBy; rw [if_neg z0, if_neg z1, if_neg z2]
  rw [e] at k
  exact ⟨_, rfl, _, _, rfl, rfl, ⟨by decide, by decide⟩, _, _, rfl, rfl, .inr ⟨by decide, by decide⟩, _, _, rfl, rfl, (by show (0 : Int) < 18446744073709551616; decide), _, _, rfl, rfl, k H (Same.refl H)⟩
structure Ints (K : PySem.W.Frag) (mg : Str → Option Value) : Prop where
  isi : mg "isinstance" = none
  int : mg "int" = none
  bool : mg "bool" = none
  ii : PySem.W.kitOne K (.type "int") (.type "int") = some true
  ib : PySem.W.kitOne K (.type "int") (.type "bool") = some false
theorem ok_whole (d : DefIn K mg "_law_whole" s_l_whole ["_law_found"]) (N : Ints K mg) : Ok P w K mg base (CXe P w base) 1 "_law_whole" ["_law_found"] (sp1 fun _ => .bl true) := by
  obtain ⟨f, fd, m, F, b⟩ := d
  refine ⟨f, fd, m, F.kp, b, F.okE sc_l_whole len1 fun cdv A outer s H vs Q E hr h => ?_⟩
  obtain ⟨n, rfl, k⟩ := h
  refine ⟨_, pss_one (ps_ret (pe_and (pe_callB call_isinst rfl N.isi PyProof.Rows.boot_isinstance (pa_cons (pv 0) (pa_cons (pe_bty N.int PyProof.Rows.boot_int) pa_nil)))
    (pe_one (pe_not (pe_callB call_isinst rfl N.isi PyProof.Rows.boot_isinstance (pa_cons (pv 0) (pa_cons (pe_bty N.bool PyProof.Rows.boot_bool) pa_nil))))))), ?_⟩
  refine ⟨_, rfl, _, _, .type "int", .type "int", true, rfl, rfl, (fun u r => r), .inl (.int n), N.ii, true, rfl, ?_⟩
  exact iteT ⟨_, rfl, _, _, .type "bool", .type "int", false, rfl, rfl, (fun u r => r), .inl (.int n), N.ib, false, rfl, k⟩
def spStart (K : PySem.W.Frag) : Sp := fun vs H Q _ => ∃ (p : Addr) (ns : List Int) (r : Int), vs = [.ref p, .int r] ∧ SqL K H p (ns.map V.int) ∧ 0 ≤ r ∧ ∀ H', Same H H' → Q (.int (ns.take r.toNat).sum) H'
theorem ok_start (d : DefIn K mg "start_of" s_start_of ["lengths", "row"]) (hsum : mg "sum" = none) : Ok P w K mg base (CXe P w base) 1 "start_of" ["lengths", "row"] (spStart K) := by
  obtain ⟨g, fd, m, F, b⟩ := d
  refine ⟨g, fd, m, F.kp, b, F.okE sc_start_of (fun vs H Q E ⟨_, _, _, e, _⟩ => by rw [e]; rfl) fun cdv A outer s H vs Q E hr h => ?_⟩
  obtain ⟨p, ns, r, rfl, hS, h0, k⟩ := h
  refine ⟨_, pss_one (ps_ret (pe_callB (call_sum rfl) rfl hsum PyProof.Rows.boot_sum (pa_cons (pe_slice sl_list (pv 0) po_none (po_some (pv 1))) pa_nil))), ?_⟩
  refine ⟨_, rfl, _, rfl, r, rfl, p, _, rfl, hS, fun l hl => ?_⟩
  rw [cutV_take h0]
  exact ⟨l, _, rfl, SqL.of upd_same, k _ (same_upd (Same.refl H) hl)⟩
def spMix : Sp := fun vs H Q _ => ∃ c f p : Int, vs = [.int c, .int f, .int p] ∧ 0 < f ∧ f < 18446744073709551616 ∧ 0 < p ∧ Q (.int (c * f % p)) H
theorem ok_mix (d : DefIn K mg "_law_mix" s_l_mix ["_law_cell", "_law_factor", "_law_prime"]) : Ok P w K mg base (CXe P w base) 1 "_law_mix" ["_law_cell", "_law_factor", "_law_prime"] spMix := by
  obtain ⟨g, fd, m, F, b⟩ := d
  refine ⟨g, fd, m, F.kp, b, F.okE sc_l_mix (fun vs H Q E ⟨_, _, _, e, _⟩ => by rw [e]; rfl) fun cdv A outer s H vs Q E hr h => ?_⟩
  obtain ⟨c, f, p, rfl, h0, h1, h2, k⟩ := h
  refine ⟨_, (pss_one (ps_ret (pe_op op_mod (pe_op op_mul (pv 0) (pv 1)) (pv 2)))), ?_⟩
  exact ⟨_, rfl, _, rfl, _, _, rfl, rfl, .inr ⟨by omega, by omega⟩, _, rfl, _, _, rfl, rfl, h2, k⟩
abbrev lensOf (rs : List (List Int)) : List Int := rs.map fun x => (x.length : Int)
theorem flat_at : ∀ (rs : List (List Int)) (r q : Nat), r < rs.length → q < (rs.getD r []).length → 0 ≤ ((lensOf rs).take r).sum ∧ rs.flatten.getD (((lensOf rs).take r).sum.toNat + q) 0 = (rs.getD r []).getD q 0
  | [], r, _, h, _ => by cases h
  | x :: rs, 0, q, _, hq => by
    have hq : q < x.length := hq
    refine ⟨by simp, ?_⟩
    show ((x ++ rs.flatten) : List Int).getD (0 + q) 0 = x.getD q 0
    rw [Nat.zero_add, List.getD_eq_getElem?_getD, List.getD_eq_getElem?_getD, List.getElem?_append_left hq]
  | x :: rs, r + 1, q, h, hq => by
    obtain ⟨a, b⟩ := flat_at rs r q (Nat.lt_of_succ_lt_succ h) hq
    have e : ((lensOf (x :: rs)).take (r + 1)).sum = (x.length : Int) + ((lensOf rs).take r).sum := by
      show (((x.length : Int) :: lensOf rs).take (r + 1)).sum = _
      rw [List.take_succ_cons, List.sum_cons]
    refine ⟨by omega, ?_⟩
    rw [e, show ((x.length : Int) + ((lensOf rs).take r).sum).toNat + q = x.length + (((lensOf rs).take r).sum.toNat + q) by omega]
    show ((x ++ rs.flatten) : List Int).getD _ 0 = (rs.getD r []).getD q 0
    rw [← b, List.getD_eq_getElem?_getD, List.getD_eq_getElem?_getD, List.getElem?_append_right (by omega), Nat.add_sub_cancel_left]
theorem lens_sum : ∀ (rs : List (List Int)), (rs.flatten.length : Int) = (lensOf rs).sum
  | [] => rfl
  | x :: rs => by
    have := lens_sum rs
    show (((x ++ rs.flatten).length : Nat) : Int) = ((x.length : Int) :: lensOf rs).sum
    rw [List.length_append, List.sum_cons]
    omega
structure RowsAt (H J : Hp) (ra : Addr) (ps : List Addr) (rs : List (List Int)) : Prop where
  r : J ra = some (.lst (ps.map V.ref))
  len : ps.length = rs.length
  at_ : ∀ i, i < ps.length → J (ps.getD i 0) = some (.lst ((rs.getD i []).map V.int)) ∧ H (ps.getD i 0) = none ∧ 1 ≤ (rs.getD i []).length ∧ (rs.getD i []).length ≤ 9 ∧ ∀ v ∈ rs.getD i [], Kin v
  nd : ps.Nodup
  ni : ra ∉ ps
  fr : H ra = none
theorem RowsAt.same {H J J' : Hp} {ra : Addr} {ps : List Addr} {rs : List (List Int)} (h : RowsAt H J ra ps rs) (s : Same J J') : RowsAt H J' ra ps rs := ⟨s _ _ h.r, h.len, fun i hi => ⟨s _ _ (h.at_ i hi).1, (h.at_ i hi).2⟩, h.nd, h.ni, h.fr⟩
theorem ref_at {ps : List Addr} {j : Int} (i : Nat) (h : i < ps.length) (e : j = i) : atI (ps.map V.ref) j = some (.ref (ps.getD i 0)) := by
  subst e
  refine atI_nat ?_
  rw [List.getElem?_map, List.getElem?_eq_getElem h]
  simp [List.getD, h]
theorem map_ref_at {ps : List Addr} {i : Nat} {x : V} (h : (ps.map V.ref)[i]? = some x) : i < ps.length ∧ x = .ref (ps.getD i 0) := by
  rw [List.getElem?_map] at h
  cases e : ps[i]? with
  | none => rw [e] at h; cases h
  | some n =>
    rw [e] at h
    refine ⟨(List.getElem?_eq_some_iff.mp e).1, ?_⟩
    rw [List.getD_eq_getElem?_getD, e]
    exact (Option.some.inj h).symm
theorem rs_mem {rs : List (List Int)} {v : Int} (h : v ∈ rs.flatten) : ∃ i, i < rs.length ∧ v ∈ rs.getD i [] := by
  obtain ⟨l, hl, hv⟩ := List.mem_flatten.mp h
  obtain ⟨i, hi, e⟩ := List.getElem_of_mem hl
  refine ⟨i, hi, ?_⟩
  rw [List.getD_eq_getElem?_getD, List.getElem?_eq_getElem hi]
  show v ∈ rs[i]
  rw [e]; exact hv
theorem take_flat {rs : List (List Int)} {i : Nat} (h : i < rs.length) : (rs.take (i + 1)).flatten = (rs.take i).flatten ++ rs.getD i [] := by
  rw [List.take_add_one, List.getElem?_eq_getElem h, List.flatten_append, List.getD_eq_getElem?_getD, List.getElem?_eq_getElem h]
  simp
theorem flat_len : ∀ {rs : List (List Int)}, (∀ i, i < rs.length → (rs.getD i []).length ≤ 9) → rs.flatten.length ≤ 9 * rs.length
  | [], _ => by simp
  | x :: rs, h => by
    have q := flat_len (rs := rs) fun i hi => h (i + 1) (by simp; omega)
    have z : x.length ≤ 9 := h 0 (by simp)
    rw [List.flatten_cons, List.length_append, List.length_cons]
    omega
theorem getD_left {α : Type} {xs ys : List α} {i : Nat} {d : α} (h : i < xs.length) : (xs ++ ys).getD i d = xs.getD i d := by
  rw [List.getD_eq_getElem?_getD, List.getD_eq_getElem?_getD, List.getElem?_append_left h]
theorem getD_last {α : Type} {xs : List α} {y d : α} : (xs ++ [y]).getD xs.length d = y := by
  rw [List.getD_eq_getElem?_getD, List.getElem?_append_right (Nat.le_refl _), Nat.sub_self]; rfl
theorem getD_inj {ps : List Addr} (h : ps.Nodup) {i j : Nat} (hi : i < ps.length) (hj : j < ps.length) (e : ps.getD i 0 = ps.getD j 0) : i = j := by
  rw [List.getD_eq_getElem?_getD, List.getD_eq_getElem?_getD, List.getElem?_eq_getElem hi, List.getElem?_eq_getElem hj] at e
  have e : ps[i] = ps[j] := e
  have pw := List.pairwise_iff_getElem.mp h
  rcases Nat.lt_trichotomy i j with z | z | z
  · exact absurd e (pw i j hi hj z)
  · exact z
  · exact absurd e.symm (pw j i hj hi z)
theorem getD_mem' {ps : List Addr} {i : Nat} (h : i < ps.length) : ps.getD i 0 ∈ ps := by
  rw [List.getD_eq_getElem?_getD, List.getElem?_eq_getElem h]
  exact List.getElem_mem h
theorem RowsAt.snoc {H J J4 : Hp} {ra D : Addr} {ps : List Addr} {rs : List (List Int)} {cs : List Int} (R : RowsAt H J ra ps rs) (s : Same J J4) (nD : J D = none) (eD : J4 D = some (.lst (cs.map V.int))) (hD : H D = none) (h1 : 1 ≤ cs.length) (h9 : cs.length ≤ 9) (hk : ∀ v ∈ cs, Kin v) :
    RowsAt H (upd J4 ra (.lst (ps.map V.ref ++ [.ref D]))) ra (ps ++ [D]) (rs ++ [cs]) := by
  have nr : ra ≠ D := ne_of_none R.r nD
  have np : D ∉ ps := fun z => by
    obtain ⟨i, hi, e⟩ := List.getElem_of_mem z
    have q := (R.at_ i hi).1
    rw [List.getD_eq_getElem?_getD, List.getElem?_eq_getElem hi] at q
    have q : J ps[i] = _ := q
    rw [e, nD] at q
    cases q
  refine ⟨by rw [upd_same, List.map_append]; rfl, by rw [List.length_append, List.length_append, R.len]; rfl, fun i hi => ?_, ?_, ?_, R.fr⟩
  · rw [List.length_append] at hi
    have hi : i < ps.length + 1 := hi
    by_cases z : i < ps.length
    · have q := R.at_ i z
      rw [getD_left z, getD_left (by rw [← R.len]; exact z)]
      refine ⟨?_, q.2⟩
      rw [upd_ne (fun e => R.ni (by rw [← e]; exact getD_mem' z))]
      exact s _ _ q.1
    · have e : i = ps.length := by omega
      subst e
      rw [getD_last, R.len, getD_last]
      exact ⟨by rw [upd_ne (Ne.symm nr)]; exact eD, hD, h1, h9, hk⟩
  · rw [List.nodup_append]
    refine ⟨R.nd, by simp, fun x hx y hy => ?_⟩
    have := List.mem_singleton.mp hy
    subst this
    rintro rfl
    exact np hx
  · intro z
    rcases List.mem_append.mp z with z | z
    · exact R.ni z
    · exact nr (List.mem_singleton.mp z)
theorem RowsAt.set {H J : Hp} {ra : Addr} {ps : List Addr} {rs : List (List Int)} {r j : Nat} {v : Int} (R : RowsAt H J ra ps rs) (hr : r < ps.length) (hv : Kin v) :
    RowsAt H (upd J (ps.getD r 0) (.lst (((rs.getD r []).set j v).map V.int))) ra ps (rs.set r ((rs.getD r []).set j v)) := by
  have nr : ra ≠ ps.getD r 0 := fun e => R.ni (by rw [e]; exact getD_mem' hr)
  refine ⟨by rw [upd_ne nr]; exact R.r, by rw [List.length_set]; exact R.len, fun i hi => ?_, R.nd, R.ni, R.fr⟩
  have q := R.at_ i hi
  by_cases z : i = r
  · subst z
    have e : (rs.set i ((rs.getD i []).set j v)).getD i [] = (rs.getD i []).set j v := by
      rw [List.getD_eq_getElem?_getD, List.getElem?_set, if_pos rfl, if_pos (by rw [← R.len]; exact hi)]; rfl
    rw [e, List.length_set]
    refine ⟨upd_same, q.2.1, q.2.2.1, q.2.2.2.1, fun x hx => ?_⟩
    rcases List.mem_or_eq_of_mem_set hx with h | h
    · exact q.2.2.2.2 x h
    · rw [h]; exact hv
  · have e : (rs.set r ((rs.getD r []).set j v)).getD i [] = rs.getD i [] := by
      rw [List.getD_eq_getElem?_getD, List.getElem?_set, if_neg (Ne.symm z), ← List.getD_eq_getElem?_getD]
    rw [e]
    refine ⟨?_, q.2⟩
    rw [upd_ne (fun y => z (getD_inj R.nd hi hr y))]
    exact q.1
structure SpotC (K : PySem.W.Frag) (C : Addr) : Prop where
  c : Cls K C
  n0 : NoAttr K C "lengths"
  n1 : NoAttr K C "functions"
  n2 : NoAttr K C "cells"
  n3 : NoAttr K C "place"
  n4 : NoAttr K C "own"
def spLies (c : Cs) (K : PySem.W.Frag) : Sp := fun vs H Q _ => ∃ (s : Addr) (S : SpotD) (r q : Int), vs = [.ref s, .int r, .int q] ∧ SpotAt c K H s S ∧ S.has r ∧ Q (.bl (decide (0 ≤ q ∧ q < S.len r))) H
theorem ok_lies {c : Cs} (d : DefIn K mg "lies_in" s_lies_in ["spot", "row", "place"]) (sc : SpotC K c.spot) : Ok P w K mg base (CXe P w base) 1 "lies_in" ["spot", "row", "place"] (spLies c K) := by
  obtain ⟨f, fd, m, F, bd⟩ := d
  refine ⟨f, fd, m, F.kp, bd, F.okE sc_lies_in (fun vs H Q E ⟨_, _, _, _, e, _⟩ => by rw [e]; rfl) fun cdv A outer s H vs Q E hr h => ?_⟩
  obtain ⟨s, S, r, q, rfl, hs, hr', k⟩ := h
  obtain ⟨dx, l, f', e, o, h1, h2, h3, h4⟩ := hs.ex
  refine ⟨_, (pss_one (ps_ret (pe_chain op_le op_lt pe_int (pv 2) (pe_ix ix_list (pe_fld (pv 0) rfl) (pv 1) (fun _ _ => rfl))))), ?_⟩
  refine ⟨_, rfl, _, _, rfl, rfl, _, rfl, ?_⟩
  by_cases z : 0 ≤ q
  · rw [if_pos (decide_eq_true z)]
    refine ⟨_, rfl, s, c.spot, dx, _, .ref l, rfl, h1, sc.c, sc.n0, rfl, _, rfl, l, _, _, _, rfl, rfl, h2, at_int r.toNat hr'.2 (by have := hr'.1; omega), _, _, rfl, rfl, ?_⟩
    have e : decide (0 ≤ q ∧ q < S.len r) = decide (q < S.lens.getD r.toNat 0) := by
      unfold SpotD.len
      simp [z]
    rw [e] at k
    exact k
  · rw [if_neg (by simp [z])]
    have e : decide (0 ≤ q ∧ q < S.len r) = false := decide_eq_false (fun y => z y.1)
    rw [e] at k
    exact k
def spCell (c : Cs) (K : PySem.W.Frag) : Sp := fun vs H Q _ => ∃ (s : Addr) (S : SpotD) (r q : Int), vs = [.ref s, .int r, .int q] ∧ SpotAt c K H s S ∧ 0 ≤ r ∧ 0 ≤ S.start r + q ∧ S.start r + q < S.cells.length ∧ ∀ H', Same H H' → Q (.int (S.cellAt r q)) H'
theorem ok_cell {c : Cs} (d : DefIn K mg "cell_at" s_cell_at ["spot", "row", "place"]) (sc : SpotC K c.spot) (SO : Ok P w K mg base (CXe P w base) 1 "start_of" ["lengths", "row"] (spStart K)) : Ok P w K mg base (CXe P w base) 2 "cell_at" ["spot", "row", "place"] (spCell c K) := by
  obtain ⟨f, fd, m, F, bd⟩ := d
  refine ⟨f, fd, m, F.kp, bd, F.okE sc_cell_at (fun vs H Q E ⟨_, _, _, _, e, _⟩ => by rw [e]; rfl) fun cdv A outer s H vs Q E hr h => ?_⟩
  obtain ⟨s, S, r, q, rfl, hs, hr', h5, h6, k⟩ := h
  obtain ⟨dx, l, f', e, o, h1, h2, h3, h4⟩ := hs.ex
  have hr1 := hr
  refine ⟨_, (pss_one (ps_ret (pe_ix ix_list (pe_fld (pv 0) rfl) (pe_op op_add (pe_ok SO hr1 rfl passE (pa_cons (pe_fld (pv 0) rfl) (pa_cons (pv 1) pa_nil))) (pv 2)) (fun _ _ => rfl)))), ?_⟩
  refine ⟨_, rfl, s, c.spot, dx, _, .ref e, rfl, h1, sc.c, sc.n2, rfl, _, rfl, s, c.spot, dx, _, .ref l, rfl, h1, sc.c, sc.n0, rfl, _, rfl, l, S.lens, r, rfl, h2, hr', fun H' s' => ?_⟩
  exact ⟨_, rfl, _, _, rfl, rfl, e, _, _, _, rfl, rfl, sql_same h3 s', at_int (S.start r + q).toNat (by omega) (by show S.start r + q = _; omega), k H' s'⟩
def spI_Spot (C : Addr) : Sp := fun vs H Q _ => ∃ (x dx : Addr) (u0 u1 u2 u3 u4 : V), vs = [.ref x, u0, u1, u2, u3, u4] ∧ H x = some (.ins C dx []) ∧ ∀ H', (∀ b o, b ≠ x → H b = some o → H' b = some o) → H' x = some (.ins C dx [("lengths", u0), ("functions", u1), ("cells", u2), ("place", u3), ("own", u4)]) → Q .non H'
theorem okI_Spot {C : Addr} (d : InitIn K C "Spot.__init__" s_Spot_init ["self", "lengths", "functions", "cells", "place", "own"]) (cl : Cls K C) (n0 : NoAttr K C "lengths") (n1 : NoAttr K C "functions") (n2 : NoAttr K C "cells") (n3 : NoAttr K C "place") (n4 : NoAttr K C "own") : OkI P w K mg base (CXe P w base) 1 C ["self", "lengths", "functions", "cells", "place", "own"] (spI_Spot C) := by
  obtain ⟨f, fd, m, F, bd⟩ := d
  refine ⟨f, fd, m, bd, F.okE sc_Spot_init (fun vs H Q E ⟨_, _, _, _, _, _, _, e, _⟩ => by rw [e]; rfl) fun cdv A outer s H vs Q E hr h => ?_⟩
  obtain ⟨x, dx, u0, u1, u2, u3, u4, rfl, hx, k⟩ := h
  refine ⟨_, (pss_cons (ps_fld (pv 0) (pv 1) rfl) (pss_cons (ps_fld (pv 0) (pv 2) rfl) (pss_cons (ps_fld (pv 0) (pv 3) rfl) (pss_cons (ps_fld (pv 0) (pv 4) rfl) (pss_one (ps_fld (pv 0) (pv 5) rfl)))))), ?_⟩
  refine ⟨_, rfl, _, rfl, x, C, dx, [], rfl, hx, cl, n0, (by show 0 < 1000; decide), ?_⟩
  refine ⟨_, rfl, _, rfl, x, C, dx, [("lengths", u0)], rfl, upd_same, cl, n1, (by show 1 < 1000; decide), ?_⟩
  refine ⟨_, rfl, _, rfl, x, C, dx, [("lengths", u0), ("functions", u1)], rfl, upd_same, cl, n2, (by show 2 < 1000; decide), ?_⟩
  refine ⟨_, rfl, _, rfl, x, C, dx, [("lengths", u0), ("functions", u1), ("cells", u2)], rfl, upd_same, cl, n3, (by show 3 < 1000; decide), ?_⟩
  refine ⟨_, rfl, _, rfl, x, C, dx, [("lengths", u0), ("functions", u1), ("cells", u2), ("place", u3)], rfl, upd_same, cl, n4, (by show 4 < 1000; decide), ?_⟩
  exact k _ (fun b o nb z => by
    rw [upd_ne nb, upd_ne nb, upd_ne nb, upd_ne nb, upd_ne nb]
    exact z) upd_same
def spI_Number (C : Addr) : Sp := fun vs H Q _ => ∃ (x dx : Addr) (u0 : V), vs = [.ref x, u0] ∧ H x = some (.ins C dx []) ∧ ∀ H', (∀ b o, b ≠ x → H b = some o → H' b = some o) → H' x = some (.ins C dx [("number", u0)]) → Q .non H'
theorem okI_Number {C : Addr} (d : InitIn K C "Number.__init__" s_Number_init ["self", "number"]) (cl : Cls K C) (n0 : NoAttr K C "number") : OkI P w K mg base (CXe P w base) 1 C ["self", "number"] (spI_Number C) := by
  obtain ⟨f, fd, m, F, bd⟩ := d
  refine ⟨f, fd, m, bd, F.okE sc_Number_init (fun vs H Q E ⟨_, _, _, e, _⟩ => by rw [e]; rfl) fun cdv A outer s H vs Q E hr h => ?_⟩
  obtain ⟨x, dx, u0, rfl, hx, k⟩ := h
  refine ⟨_, (pss_one (ps_fld (pv 0) (pv 1) rfl)), ?_⟩
  refine ⟨_, rfl, _, rfl, x, C, dx, [], rfl, hx, cl, n0, (by show 0 < 1000; decide), ?_⟩
  exact k _ (fun b o nb z => by
    rw [upd_ne nb]
    exact z) upd_same
def spI_Cell (C : Addr) : Sp := fun vs H Q _ => ∃ (x dx : Addr) (u0 : V), vs = [.ref x, u0] ∧ H x = some (.ins C dx []) ∧ ∀ H', (∀ b o, b ≠ x → H b = some o → H' b = some o) → H' x = some (.ins C dx [("row", u0)]) → Q .non H'
theorem okI_Cell {C : Addr} (d : InitIn K C "Cell.__init__" s_Cell_init ["self", "row"]) (cl : Cls K C) (n0 : NoAttr K C "row") : OkI P w K mg base (CXe P w base) 1 C ["self", "row"] (spI_Cell C) := by
  obtain ⟨f, fd, m, F, bd⟩ := d
  refine ⟨f, fd, m, bd, F.okE sc_Cell_init (fun vs H Q E ⟨_, _, _, e, _⟩ => by rw [e]; rfl) fun cdv A outer s H vs Q E hr h => ?_⟩
  obtain ⟨x, dx, u0, rfl, hx, k⟩ := h
  refine ⟨_, (pss_one (ps_fld (pv 0) (pv 1) rfl)), ?_⟩
  refine ⟨_, rfl, _, rfl, x, C, dx, [], rfl, hx, cl, n0, (by show 0 < 1000; decide), ?_⟩
  exact k _ (fun b o nb z => by
    rw [upd_ne nb]
    exact z) upd_same
def spI_Shifted (C : Addr) : Sp := fun vs H Q _ => ∃ (x dx : Addr) (u0 u1 u2 : V), vs = [.ref x, u0, u1, u2] ∧ H x = some (.ins C dx []) ∧ ∀ H', (∀ b o, b ≠ x → H b = some o → H' b = some o) → H' x = some (.ins C dx [("row", u0), ("by", u1), ("other", u2)]) → Q .non H'
theorem okI_Shifted {C : Addr} (d : InitIn K C "Shifted.__init__" s_Shifted_init ["self", "row", "by", "other"]) (cl : Cls K C) (n0 : NoAttr K C "row") (n1 : NoAttr K C "by") (n2 : NoAttr K C "other") : OkI P w K mg base (CXe P w base) 1 C ["self", "row", "by", "other"] (spI_Shifted C) := by
  obtain ⟨f, fd, m, F, bd⟩ := d
  refine ⟨f, fd, m, bd, F.okE sc_Shifted_init (fun vs H Q E ⟨_, _, _, _, _, e, _⟩ => by rw [e]; rfl) fun cdv A outer s H vs Q E hr h => ?_⟩
  obtain ⟨x, dx, u0, u1, u2, rfl, hx, k⟩ := h
  refine ⟨_, (pss_cons (ps_fld (pv 0) (pv 1) rfl) (pss_cons (ps_fld (pv 0) (pv 2) rfl) (pss_one (ps_fld (pv 0) (pv 3) rfl)))), ?_⟩
  refine ⟨_, rfl, _, rfl, x, C, dx, [], rfl, hx, cl, n0, (by show 0 < 1000; decide), ?_⟩
  refine ⟨_, rfl, _, rfl, x, C, dx, [("row", u0)], rfl, upd_same, cl, n1, (by show 1 < 1000; decide), ?_⟩
  refine ⟨_, rfl, _, rfl, x, C, dx, [("row", u0), ("by", u1)], rfl, upd_same, cl, n2, (by show 2 < 1000; decide), ?_⟩
  exact k _ (fun b o nb z => by
    rw [upd_ne nb, upd_ne nb, upd_ne nb]
    exact z) upd_same
def spI_Local (C : Addr) : Sp := fun vs H Q _ => ∃ (x dx : Addr) (u0 : V), vs = [.ref x, u0] ∧ H x = some (.ins C dx []) ∧ ∀ H', (∀ b o, b ≠ x → H b = some o → H' b = some o) → H' x = some (.ins C dx [("at", u0)]) → Q .non H'
theorem okI_Local {C : Addr} (d : InitIn K C "Local.__init__" s_Local_init ["self", "at"]) (cl : Cls K C) (n0 : NoAttr K C "at") : OkI P w K mg base (CXe P w base) 1 C ["self", "at"] (spI_Local C) := by
  obtain ⟨f, fd, m, F, bd⟩ := d
  refine ⟨f, fd, m, bd, F.okE sc_Local_init (fun vs H Q E ⟨_, _, _, e, _⟩ => by rw [e]; rfl) fun cdv A outer s H vs Q E hr h => ?_⟩
  obtain ⟨x, dx, u0, rfl, hx, k⟩ := h
  refine ⟨_, (pss_one (ps_fld (pv 0) (pv 1) rfl)), ?_⟩
  refine ⟨_, rfl, _, rfl, x, C, dx, [], rfl, hx, cl, n0, (by show 0 < 1000; decide), ?_⟩
  exact k _ (fun b o nb z => by
    rw [upd_ne nb]
    exact z) upd_same
theorem made_same {H H' : Hp} {x dx : Addr} {o1 o2 : HO} (nx : H x = none) (ndx : H dx = none) (k : ∀ b o, b ≠ x → upd (upd H dx o1) x o2 b = some o → H' b = some o) : Same H H' := fun c o z => k c o (ne_of_none z nx) (by rw [upd_ne (ne_of_none z nx), upd_ne (ne_of_none z ndx)]; exact z)
theorem w_num {c : Cs} {CN OU : Addr} {n : Int} (d : MethIn K c.num "worth" "Number.worth" s_Number_worth ["self", "spot"]) (cl : Cls K c.num) (n0 : NoAttr K c.num "number") : Worth P w K mg base c CN OU 1 (.num n) := by
  obtain ⟨f, fd, m, F, bd⟩ := d
  rintro x H ⟨dx, hx⟩
  refine ⟨c.num, dx, _, fun vs H Q _ => ∃ (x s dx : Addr), vs = [.ref x, .ref s] ∧ H x = some (.ins c.num dx [("number", .int n)]) ∧ Q (.int n) H, hx, ⟨cl, f, fd, _, m, F.okE sc_Number_worth (fun vs H Q E ⟨_, _, _, e, _⟩ => by rw [e]; rfl) fun cdv A outer s H vs Q E hr h => ?_, bd⟩, rfl, fun s S Q E hs ho hw o => ⟨x, s, dx, rfl, hx, o H (Same.refl H)⟩⟩
  obtain ⟨x, s, dx, rfl, hx, k⟩ := h
  refine ⟨_, (pss_one (ps_ret (pe_fld (pv 0) rfl))), ?_⟩
  exact ⟨_, rfl, x, c.num, dx, _, .int n, rfl, hx, cl, n0, rfl, k⟩
theorem w_here {c : Cs} {CN OU : Addr} (d : MethIn K c.here "worth" "Here.worth" s_Here_worth ["self", "spot"]) (cl : Cls K c.here) (sc : SpotC K c.spot) : Worth P w K mg base c CN OU 1 .here := by
  obtain ⟨f, fd, m, F, bd⟩ := d
  intro x H hx
  obtain ⟨dx, hx0⟩ := id hx
  refine ⟨c.here, dx, _, fun vs H Q E => ∃ (x s : Addr) (S : SpotD), vs = [.ref x, .ref s] ∧ FormAt c H (.here) x ∧ SpotAt c K H s S ∧ SpotOk S ∧ WF S (.here) ∧ Out CN OU (ev S (.here)) H Q E, hx0, ⟨cl, f, fd, _, m, F.okE sc_Here_worth (fun vs H Q E ⟨_, _, _, e, _⟩ => by rw [e]; rfl) fun cdv A outer s H vs Q E hr h => ?_, bd⟩, rfl, fun s S Q E hs ho hw o => ⟨x, s, S, rfl, hx, hs, ho, hw, o⟩⟩
  obtain ⟨x, s, S, rfl, ⟨dx, hx⟩, hs, ho, hw, o⟩ := h
  obtain ⟨dy, l, f', e, ow, h1, h2, h3, h4⟩ := hs.ex
  refine ⟨_, (pss_one (ps_ret (pe_fld (pv 1) rfl))), ?_⟩
  exact ⟨_, rfl, s, c.spot, dy, _, .int S.place, rfl, h1, sc.c, sc.n3, rfl, o H (Same.refl _)⟩
theorem w_cell {c : Cs} {CN OU : Addr} {r : Int} (d : MethIn K c.cell "worth" "Cell.worth" s_Cell_worth ["self", "spot"]) (cl : Cls K c.cell) (n0 : NoAttr K c.cell "row") (sc : SpotC K c.spot)
    (CL : Ok P w K mg base (CXe P w base) 2 "cell_at" ["spot", "row", "place"] (spCell c K)) : Worth P w K mg base c CN OU 3 (.cell r) := by
  obtain ⟨f, fd, m, F, bd⟩ := d
  intro x H hx
  obtain ⟨dx, hx0⟩ := id hx
  refine ⟨c.cell, dx, _, fun vs H Q E => ∃ (x s : Addr) (S : SpotD), vs = [.ref x, .ref s] ∧ FormAt c H (.cell r) x ∧ SpotAt c K H s S ∧ SpotOk S ∧ WF S (.cell r) ∧ Out CN OU (ev S (.cell r)) H Q E, hx0, ⟨cl, f, fd, _, m, F.okE sc_Cell_worth (fun vs H Q E ⟨_, _, _, e, _⟩ => by rw [e]; rfl) fun cdv A outer s H vs Q E hr h => ?_, bd⟩, rfl, fun s S Q E hs ho hw o => ⟨x, s, S, rfl, hx, hs, ho, hw, o⟩⟩
  obtain ⟨x, s, S, rfl, ⟨dx, hx⟩, hs, ho, hw, o⟩ := h
  obtain ⟨dy, l, f', e, ow, h1, h2, h3, h4⟩ := hs.ex
  have hr2 := hr
  refine ⟨_, (pss_cons (ps_if (pt_cmpR op_eq (pe_ix ix_list (pe_fld (pv 1) rfl) (pe_fld (pv 0) rfl) (fun _ _ => rfl)) pe_int (nomark _)) (pss_one (ps_ret (pe_ok CL hr2 rfl passE (pa_cons (pv 1) (pa_cons (pe_fld (pv 0) rfl) (pa_cons pe_int pa_nil)))))) pss_nil)
      (pss_one (ps_ret (pe_ok CL hr2 rfl passE (pa_cons (pv 1) (pa_cons (pe_fld (pv 0) rfl) (pa_cons (pe_fld (pv 1) rfl) pa_nil))))))), ?_⟩
  refine ⟨_, rfl, s, c.spot, dy, _, .ref l, rfl, h1, sc.c, sc.n0, rfl, _, rfl, x, c.cell, dx, _, .int r, rfl, hx, cl, n0, rfl, l, _, _, _, rfl, rfl, h2, at_int r.toNat hw.1.2 (by have := hw.1.1; omega), rfl, _, rfl, ?_⟩
  by_cases z : S.len r = 1
  · have ci := cell_in ho hw.1 (q := 0) (by decide) (by omega)
    have ez : ev S (.cell r) = .ok (S.cellAt r 0) := if_pos z
    rw [ez] at o
    rw [decide_eq_true (show V.int (S.lens.getD r.toNat 0) = V.int 1 from congrArg V.int z)]
    exact iteT ⟨_, rfl, _, rfl, x, c.cell, dx, _, .int r, rfl, hx, cl, n0, rfl, s, S, r, 0, rfl, hs, hw.1.1, ci.1, ci.2.1, fun H2 s2 => o H2 s2⟩
  · have pl := hw.2.2 z
    have ci := cell_in ho hw.1 pl.1 pl.2
    have ez : ev S (.cell r) = .ok (S.cellAt r S.place) := if_neg z
    rw [ez] at o
    rw [decide_eq_false (show ¬ V.int (S.lens.getD r.toNat 0) = V.int 1 from fun y => z (by injection y))]
    exact iteF ⟨_, rfl, _, rfl, x, c.cell, dx, _, .int r, rfl, hx, cl, n0, rfl, _, rfl, s, c.spot, dy, _, .int S.place, rfl, h1, sc.c, sc.n3, rfl, s, S, r, S.place, rfl, hs, hw.1.1, ci.1, ci.2.1, fun H2 s2 => o H2 s2⟩
theorem w_shi {c : Cs} {CN OU : Addr} {r b o' : Int} (d : MethIn K c.shi "worth" "Shifted.worth" s_Shifted_worth ["self", "spot"]) (cl : Cls K c.shi) (n0 : NoAttr K c.shi "row") (n1 : NoAttr K c.shi "by") (n2 : NoAttr K c.shi "other") (sc : SpotC K c.spot)
    (LI : Ok P w K mg base (CXe P w base) 1 "lies_in" ["spot", "row", "place"] (spLies c K)) (CL : Ok P w K mg base (CXe P w base) 2 "cell_at" ["spot", "row", "place"] (spCell c K)) : Worth P w K mg base c CN OU 3 (.shi r b o') := by
  obtain ⟨f, fd, m, F, bd⟩ := d
  intro x H hx
  obtain ⟨dx, hx0⟩ := id hx
  refine ⟨c.shi, dx, _, fun vs H Q E => ∃ (x s : Addr) (S : SpotD), vs = [.ref x, .ref s] ∧ FormAt c H (.shi r b o') x ∧ SpotAt c K H s S ∧ SpotOk S ∧ WF S (.shi r b o') ∧ Out CN OU (ev S (.shi r b o')) H Q E, hx0, ⟨cl, f, fd, _, m, F.okE sc_Shifted_worth (fun vs H Q E ⟨_, _, _, e, _⟩ => by rw [e]; rfl) fun cdv A outer s H vs Q E hr h => ?_, bd⟩, rfl, fun s S Q E hs ho hw o => ⟨x, s, S, rfl, hx, hs, ho, hw, o⟩⟩
  obtain ⟨x, s, S, rfl, ⟨dx, hx⟩, hs, ho, hw, o⟩ := h
  obtain ⟨dy, l, f', e, ow, h1, h2, h3, h4⟩ := hs.ex
  have nd := sc_Shifted_worth.nd
  have hr2 := hr
  have hr1 : Room 1 _ := hr.mono (by decide)
  refine ⟨_, (pss_cons (ps_set (i := 2) nd rfl (Or.inl rfl) (pe_op op_add (pe_fld (pv 1) rfl) (pe_fld (pv 0) rfl)))
      (pss_cons (ps_if (pt_val (pe_ok LI hr1 rfl passE (pa_cons (pv 1) (pa_cons (pe_fld (pv 0) rfl) (pa_cons (pv 2) pa_nil))))) (pss_one (ps_ret (pe_ok CL hr2 rfl passE (pa_cons (pv 1) (pa_cons (pe_fld (pv 0) rfl) (pa_cons (pv 2) pa_nil)))))) pss_nil)
      (pss_one (ps_ret (pe_fld (pv 0) rfl))))), ?_⟩
  refine ⟨_, rfl, s, c.spot, dy, _, .int S.place, rfl, h1, sc.c, sc.n3, rfl, _, rfl, x, c.shi, dx, _, .int b, rfl, hx, cl, n1, rfl, _, _, rfl, rfl, ?_⟩
  refine ⟨_, rfl, _, rfl, x, c.shi, dx, _, .int r, rfl, hx, cl, n0, rfl, _, rfl, s, S, r, S.place + b, rfl, hs, hw.1, _, rfl, ?_⟩
  by_cases z : 0 ≤ S.place + b ∧ S.place + b < S.len r
  · have ci := cell_in ho hw.1 z.1 z.2
    have ez : ev S (.shi r b o') = .ok (S.cellAt r (S.place + b)) := if_pos z
    rw [ez] at o
    rw [decide_eq_true z]
    exact iteT ⟨_, rfl, _, rfl, x, c.shi, dx, _, .int r, rfl, hx, cl, n0, rfl, _, rfl, s, S, r, S.place + b, rfl, hs, hw.1.1, ci.1, ci.2.1, fun H2 s2 => o H2 s2⟩
  · have ez : ev S (.shi r b o') = .ok o' := if_neg z
    rw [ez] at o
    rw [decide_eq_false z]
    exact iteF ⟨_, rfl, x, c.shi, dx, _, .int o', rfl, hx, cl, n2, rfl, o H (Same.refl _)⟩
theorem w_loc {c : Cs} {CN OU : Addr} {a : Int} (d : MethIn K c.loc "worth" "Local.worth" s_Local_worth ["self", "spot"]) (cl : Cls K c.loc) (n0 : NoAttr K c.loc "at") (sc : SpotC K c.spot) : Worth P w K mg base c CN OU 1 (.loc a) := by
  obtain ⟨f, fd, m, F, bd⟩ := d
  intro x H hx
  obtain ⟨dx, hx0⟩ := id hx
  refine ⟨c.loc, dx, _, fun vs H Q E => ∃ (x s : Addr) (S : SpotD), vs = [.ref x, .ref s] ∧ FormAt c H (.loc a) x ∧ SpotAt c K H s S ∧ SpotOk S ∧ WF S (.loc a) ∧ Out CN OU (ev S (.loc a)) H Q E, hx0, ⟨cl, f, fd, _, m, F.okE sc_Local_worth (fun vs H Q E ⟨_, _, _, e, _⟩ => by rw [e]; rfl) fun cdv A outer s H vs Q E hr h => ?_, bd⟩, rfl, fun s S Q E hs ho hw o => ⟨x, s, S, rfl, hx, hs, ho, hw, o⟩⟩
  obtain ⟨x, s, S, rfl, ⟨dx, hx⟩, hs, ho, hw, o⟩ := h
  obtain ⟨dy, l, f', e, ow, h1, h2, h3, h4⟩ := hs.ex
  refine ⟨_, (pss_one (ps_ret (pe_ix ix_list (pe_fld (pv 1) rfl) (pe_fld (pv 0) rfl) (fun _ _ => rfl)))), ?_⟩
  exact ⟨_, rfl, s, c.spot, dy, _, .ref ow, rfl, h1, sc.c, sc.n4, rfl, _, rfl, x, c.loc, dx, _, .int a, rfl, hx, cl, n0, rfl, ow, _, _, _, rfl, rfl, h4, at_int a.toNat hw.2 (by have := hw.1; omega), o H (Same.refl _)⟩

end
end K08

namespace K08
open PySem L2 FM
section
variable {P : Program} {w : World} {K : PySem.W.Frag} {mg : Str → Option Value} {base : Heap}
def byF (c : Int) : Int := if c / 5 % 4 = 3 then c / 20 % 801 - 400 else c / 20 % 13 - 6
def atF (c : Int) : Int := c * 16807 % 2147483399 % 6
def plF (c how ln : Int) : Int := if how = 2 ∧ ln > 1 then c * 69621 % 2147483629 % ln else if c / 7 % 3 = 0 then c * 39373 % 2147483587 % 400 else c * 40692 % 2147483579 % 10
def leafF (c r n : Int) : Fm := if c % 5 = 0 then .num n else if c % 5 = 1 then .here else if c % 5 = 2 then .cell r else if c % 5 = 3 then .shi r (byF c) n else .loc (atF c)
def dueF (how : Int) (part : List Int) (pl b n g : Int) : Int := if how = 0 then n else if how = 1 then pl else if how = 2 then (if part.length = 1 then part.getD 0 0 else part.getD pl.toNat 0) else if how = 3 then (if 0 ≤ pl + b ∧ pl + b < part.length then part.getD (pl + b).toNat 0 else n) else g
theorem plF_in {c how ln : Int} (h : 1 ≤ ln) (h9 : ln ≤ 9) : 0 ≤ plF c how ln ∧ plF c how ln < 400 ∧ (how = 2 → ln ≠ 1 → plF c how ln < ln) := by
  unfold plF
  split
  · have m0 := Int.emod_nonneg (c * 69621 % 2147483629) (show ln ≠ 0 by omega)
    have m1 := Int.emod_lt_of_pos (c * 69621 % 2147483629) (show 0 < ln by omega)
    exact ⟨m0, by omega, fun _ _ => m1⟩
  · rename_i z
    have q : how = 2 → ln ≠ 1 → False := fun a b => z ⟨a, by omega⟩
    split
    · exact ⟨by omega, by omega, fun a b => (q a b).elim⟩
    · exact ⟨by omega, by omega, fun a b => (q a b).elim⟩
theorem atF_in (c : Int) : 0 ≤ atF c ∧ atF c < 6 := by unfold atF; omega
theorem intEq {a b : Int} : decide (V.int a = V.int b) = decide (a = b) := by
  by_cases z : a = b
  · subst z; simp
  · rw [decide_eq_false z, decide_eq_false (fun q => z (by injection q))]
def spBy : Sp := fun vs H Q _ => ∃ c : Int, vs = [.int c] ∧ Q (.int (byF c)) H
theorem ok_by (d : DefIn K mg "_law_by" s_l_by ["_law_cell"]) : Ok P w K mg base (CXe P w base) 1 "_law_by" ["_law_cell"] spBy := by
  obtain ⟨g, fd, m, F, b⟩ := d
  refine ⟨g, fd, m, F.kp, b, F.okE sc_l_by (fun vs H Q E ⟨_, e, _⟩ => by rw [e]; rfl) fun cdv A outer s H vs Q E hr h => ?_⟩
  obtain ⟨c, rfl, k⟩ := h
  refine ⟨_, (pss_cons (ps_if (pt_cmpR op_eq (pe_op op_mod (pe_op op_fdiv (pv 0) pe_int) pe_int) pe_int (nomark _)) (pss_one (ps_ret (pe_op op_sub (pe_op op_mod (pe_op op_fdiv (pv 0) pe_int) pe_int) pe_int))) pss_nil)
      (pss_one (ps_ret (pe_op op_sub (pe_op op_mod (pe_op op_fdiv (pv 0) pe_int) pe_int) pe_int)))), ?_⟩
  refine ⟨_, rfl, _, _, rfl, rfl, ⟨by decide, by decide⟩, _, _, rfl, rfl, (by show (0 : Int) < 4; decide), rfl, _, rfl, ?_⟩
  rw [intEq]
  unfold byF at k
  refine ite2 (fun z => ?_) (fun z => ?_)
  · rw [if_pos (by simpa using z)] at k
    exact ⟨_, rfl, _, _, rfl, rfl, ⟨by decide, by decide⟩, _, _, rfl, rfl, (by show (0 : Int) < 801; decide), _, _, rfl, rfl, k⟩
  · rw [if_neg (by simpa using z)] at k
    exact ⟨_, rfl, _, _, rfl, rfl, ⟨by decide, by decide⟩, _, _, rfl, rfl, (by show (0 : Int) < 13; decide), _, _, rfl, rfl, k⟩
def spPl : Sp := fun vs H Q _ => ∃ c how ln : Int, vs = [.int c, .int how, .int ln] ∧ 1 ≤ ln ∧ Q (.int (plF c how ln)) H
theorem ok_pl (d : DefIn K mg "_law_place_by" s_l_place_by ["_law_cell", "_law_how", "_law_length"]) (MX : Ok P w K mg base (CXe P w base) 1 "_law_mix" ["_law_cell", "_law_factor", "_law_prime"] spMix) : Ok P w K mg base (CXe P w base) 2 "_law_place_by" ["_law_cell", "_law_how", "_law_length"] spPl := by
  obtain ⟨g, fd, m, F, b⟩ := d
  refine ⟨g, fd, m, F.kp, b, F.okE sc_l_place_by (fun vs H Q E ⟨_, _, _, e, _⟩ => by rw [e]; rfl) fun cdv A outer s H vs Q E hr h => ?_⟩
  obtain ⟨c, how, ln, rfl, h1, k⟩ := h
  have hr1 := hr
  refine ⟨_, (pss_cons (ps_if (pw_and (pt_cmpR op_eq (pv 1) pe_int (nomark _)) (pw_and1 (pt_cmpR op_gt (pv 2) pe_int (nomark _)))).pt (pss_one (ps_ret (pe_op op_mod (pe_ok MX hr1 (by rfl) passF (pa_cons (pv 0) (pa_cons pe_int (pa_cons pe_int pa_nil)))) (pv 2)))) pss_nil)
      (pss_cons (ps_if (pt_cmpR op_eq (pe_op op_mod (pe_op op_fdiv (pv 0) pe_int) pe_int) pe_int (nomark _)) (pss_one (ps_ret (pe_op op_mod (pe_ok MX hr1 (by rfl) passF (pa_cons (pv 0) (pa_cons pe_int (pa_cons pe_int pa_nil)))) pe_int))) pss_nil)
      (pss_one (ps_ret (pe_op op_mod (pe_ok MX hr1 (by rfl) passF (pa_cons (pv 0) (pa_cons pe_int (pa_cons pe_int pa_nil)))) pe_int))))), ?_⟩
  refine ⟨_, rfl, rfl, _, rfl, ?_⟩
  rw [intEq]
  unfold plF at k
  by_cases z : how = 2
  · rw [decide_eq_true z]
    refine iteT ⟨_, rfl, _, _, rfl, rfl, _, rfl, ?_⟩
    by_cases z2 : ln > 1
    · rw [if_pos ⟨z, z2⟩] at k
      rw [decide_eq_true (show (1 : Int) < ln from z2)]
      exact iteT ⟨_, rfl, _, _, _, rfl, by decide, by decide, by decide, _, rfl, _, _, rfl, rfl, (by show (0 : Int) < ln; omega), k⟩
    · rw [if_neg (fun q => z2 q.2)] at k
      rw [decide_eq_false (show ¬ (1 : Int) < ln from z2)]
      refine iteF ⟨_, rfl, _, _, rfl, rfl, ⟨by decide, by decide⟩, _, _, rfl, rfl, (by show (0 : Int) < 3; decide), rfl, _, rfl, ?_⟩
      rw [intEq]
      refine ite2 (fun z3 => ?_) (fun z3 => ?_)
      · rw [if_pos (by simpa using z3)] at k
        exact ⟨_, rfl, _, _, _, rfl, by decide, by decide, by decide, _, _, rfl, rfl, (by show (0 : Int) < 400; decide), k⟩
      · rw [if_neg (by simpa using z3)] at k
        exact ⟨_, rfl, _, _, _, rfl, by decide, by decide, by decide, _, _, rfl, rfl, (by show (0 : Int) < 10; decide), k⟩
  · rw [if_neg (fun q => z q.1)] at k
    rw [decide_eq_false z]
    refine iteF ?_
    refine iteF ⟨_, rfl, _, _, rfl, rfl, ⟨by decide, by decide⟩, _, _, rfl, rfl, (by show (0 : Int) < 3; decide), rfl, _, rfl, ?_⟩
    rw [intEq]
    refine ite2 (fun z3 => ?_) (fun z3 => ?_)
    · rw [if_pos (by simpa using z3)] at k
      exact ⟨_, rfl, _, _, _, rfl, by decide, by decide, by decide, _, _, rfl, rfl, (by show (0 : Int) < 400; decide), k⟩
    · rw [if_neg (by simpa using z3)] at k
      exact ⟨_, rfl, _, _, _, rfl, by decide, by decide, by decide, _, _, rfl, rfl, (by show (0 : Int) < 10; decide), k⟩
def spLeaf (cs : Cs) : Sp := fun vs H Q _ => ∃ c r n : Int, vs = [.int c, .int r, .int n] ∧ ∀ x H', Same H H' → FormAt cs H' (leafF c r n) x → H x = none → Q (.ref x) H'
theorem ok_leaf {c : Cs} (d : DefIn K mg "_law_leaf_by" s_l_leaf_by ["_law_cell", "_law_row", "_law_number"]) (MX : Ok P w K mg base (CXe P w base) 1 "_law_mix" ["_law_cell", "_law_factor", "_law_prime"] spMix) (BY : Ok P w K mg base (CXe P w base) 1 "_law_by" ["_law_cell"] spBy)
    (IN : OkI P w K mg base (CXe P w base) 1 c.num ["self", "number"] (spI_Number c.num)) (hCn : mg "Number" = some (.ref c.num)) (IC : OkI P w K mg base (CXe P w base) 1 c.cell ["self", "row"] (spI_Cell c.cell)) (hCc : mg "Cell" = some (.ref c.cell))
    (IH : OkI P w K mg base (CXe P w base) 1 c.shi ["self", "row", "by", "other"] (spI_Shifted c.shi)) (hCh : mg "Shifted" = some (.ref c.shi)) (IL : OkI P w K mg base (CXe P w base) 1 c.loc ["self", "at"] (spI_Local c.loc)) (hCl : mg "Local" = some (.ref c.loc))
    (MH : MkN K c.here) (hCe : mg "Here" = some (.ref c.here)) : Ok P w K mg base (CXe P w base) 3 "_law_leaf_by" ["_law_cell", "_law_row", "_law_number"] (spLeaf c) := by
  obtain ⟨g, fd, m, F, b⟩ := d
  refine ⟨g, fd, m, F.kp, b, F.okE sc_l_leaf_by (fun vs H Q E ⟨_, _, _, e, _⟩ => by rw [e]; rfl) fun cdv A outer s H vs Q E hr h => ?_⟩
  obtain ⟨cc, r, n, rfl, k⟩ := h
  have nd := sc_l_leaf_by.nd
  have hr2 := hr
  have hr1 : Room 1 _ := hr.mono (by decide)
  refine ⟨_, (pss_cons (ps_set (i := 3) nd rfl (Or.inl rfl) (pe_op op_mod (pv 0) pe_int))
      (pss_cons (ps_if (pt_cmpR op_eq (pv 3) pe_int (nomark _)) (pss_one (ps_ret (pe_okI IN hCn hr2 (by rfl) passF (pa_cons (pv 2) pa_nil)))) pss_nil)
      (pss_cons (ps_if (pt_cmpR op_eq (pv 3) pe_int (nomark _)) (pss_one (ps_ret (pe_makeN MH (by rfl) hCe))) pss_nil)
      (pss_cons (ps_if (pt_cmpR op_eq (pv 3) pe_int (nomark _)) (pss_one (ps_ret (pe_okI IC hCc hr2 (by rfl) passF (pa_cons (pv 1) pa_nil)))) pss_nil)
      (pss_cons (ps_if (pt_cmpR op_eq (pv 3) pe_int (nomark _)) (pss_one (ps_ret (pe_okI IH hCh hr2 (by rfl) passF (pa_cons (pv 1) (pa_cons (pe_ok BY hr1 (by rfl) passF (pa_cons (pv 0) pa_nil)) (pa_cons (pv 2) pa_nil)))))) pss_nil)
      (pss_one (ps_ret (pe_okI IL hCl hr2 (by rfl) passF (pa_cons (pe_op op_mod (pe_ok MX hr1 (by rfl) passF (pa_cons (pv 0) (pa_cons pe_int (pa_cons pe_int pa_nil)))) pe_int) pa_nil))))))))), ?_⟩
  unfold leafF at k
  refine ⟨_, rfl, _, _, rfl, rfl, (by show (0 : Int) < 5; decide), _, rfl, rfl, _, rfl, ?_⟩
  rw [intEq]
  refine ite2 (fun z => ?_) (fun z => ?_)
  · rw [if_pos (by simpa using z)] at k
    exact ⟨_, rfl, fun x dx nx ndx ne => ⟨x, dx, _, rfl, upd_same, fun H' k' e => ⟨rfl, k x H' (made_same nx ndx k') ⟨dx, e⟩ nx⟩⟩⟩
  rw [if_neg (by simpa using z)] at k
  refine ⟨_, rfl, rfl, _, rfl, ?_⟩
  rw [intEq]
  refine ite2 (fun z => ?_) (fun z => ?_)
  · rw [if_pos (by simpa using z)] at k
    exact fun x dx nx ndx ne => k x _ (same_upd (same_upd (Same.refl H) ndx) nx) ⟨dx, upd_same⟩ nx
  rw [if_neg (by simpa using z)] at k
  refine ⟨_, rfl, rfl, _, rfl, ?_⟩
  rw [intEq]
  refine ite2 (fun z => ?_) (fun z => ?_)
  · rw [if_pos (by simpa using z)] at k
    exact ⟨_, rfl, fun x dx nx ndx ne => ⟨x, dx, _, rfl, upd_same, fun H' k' e => ⟨rfl, k x H' (made_same nx ndx k') ⟨dx, e⟩ nx⟩⟩⟩
  rw [if_neg (by simpa using z)] at k
  refine ⟨_, rfl, rfl, _, rfl, ?_⟩
  rw [intEq]
  refine ite2 (fun z => ?_) (fun z => ?_)
  · rw [if_pos (by simpa using z)] at k
    exact ⟨_, rfl, _, rfl, cc, rfl, _, rfl, fun x dx nx ndx ne => ⟨x, dx, _, _, _, rfl, upd_same, fun H' k' e => ⟨rfl, k x H' (made_same nx ndx k') ⟨dx, e⟩ nx⟩⟩⟩
  rw [if_neg (by simpa using z)] at k
  exact ⟨_, rfl, _, _, _, rfl, by decide, by decide, by decide, _, _, rfl, rfl, (by show (0 : Int) < 6; decide), fun x dx nx ndx ne => ⟨x, dx, _, rfl, upd_same, fun H' k' e => ⟨rfl, k x H' (made_same nx ndx k') ⟨dx, e⟩ nx⟩⟩⟩
end
end K08

namespace K08
open PySem L2 FM
section
variable {P : Program} {w : World} {K : PySem.W.Frag} {mg : Str → Option Value} {base : Heap}
structure LCls (K : PySem.W.Frag) (c : Cs) : Prop where
  num : Cls K c.num
  num0 : NoAttr K c.num "number"
  cell : Cls K c.cell
  cell0 : NoAttr K c.cell "row"
  shi : Cls K c.shi
  shi0 : NoAttr K c.shi "row"
  shi1 : NoAttr K c.shi "by"
  shi2 : NoAttr K c.shi "other"
  loc : Cls K c.loc
  loc0 : NoAttr K c.loc "at"
theorem eqT {Q : VK} {H : Hp} {v : V} (k : Q (.bl true) H) : Q (.bl (decide (v = v))) H := by rw [decide_eq_true rfl]; exact k
def spFields (cs : Cs) : Sp := fun vs H Q _ => ∃ (x : Addr) (c r n : Int), vs = [.ref x, .int (c % 5), .int r, .int (byF c), .int n, .int (atF c)] ∧ FormAt cs H (leafF c r n) x ∧ Q (.bl true) H
theorem ok_fields {c : Cs} (d : DefIn K mg "_law_fields" s_l_fields ["_law_leaf", "_law_how", "_law_row", "_law_by_here", "_law_number", "_law_at"]) (L : LCls K c) : Ok P w K mg base (CXe P w base) 1 "_law_fields" ["_law_leaf", "_law_how", "_law_row", "_law_by_here", "_law_number", "_law_at"] (spFields c) := by
  obtain ⟨g, fd, m, F, b⟩ := d
  refine ⟨g, fd, m, F.kp, b, F.okE sc_l_fields (fun vs H Q E ⟨_, _, _, _, e, _⟩ => by rw [e]; rfl) fun cdv A outer s H vs Q E hr h => ?_⟩
  obtain ⟨x, cc, r, n, rfl, hx, k⟩ := h
  refine ⟨_, (pss_cons (ps_if (pt_cmpR op_eq (pv 1) pe_int (nomark _)) (pss_one (ps_ret (pe_cmpR op_eq (pe_fld (pv 0) rfl) (pv 4) (nomark _)))) pss_nil)
      (pss_cons (ps_if (pt_cmpR op_eq (pv 1) pe_int (nomark _)) (pss_one (ps_ret (pe_cmpR op_eq (pe_fld (pv 0) rfl) (pv 2) (nomark _)))) pss_nil)
      (pss_cons (ps_if (pt_cmpR op_eq (pv 1) pe_int (nomark _)) (pss_one (ps_ret (pe_and (pe_cmpR op_eq (pe_fld (pv 0) rfl) (pv 2) (nomark _)) (pe_and (pe_cmpR op_eq (pe_fld (pv 0) rfl) (pv 3) (nomark _)) (pe_one (pe_cmpR op_eq (pe_fld (pv 0) rfl) (pv 4) (nomark _))))))) pss_nil)
      (pss_cons (ps_if (pt_cmpR op_eq (pv 1) pe_int (nomark _)) (pss_one (ps_ret (pe_cmpR op_eq (pe_fld (pv 0) rfl) (pv 5) (nomark _)))) pss_nil)
      (pss_one (ps_ret pe_bl)))))), ?_⟩
  unfold leafF at hx
  refine ⟨_, rfl, rfl, _, rfl, ?_⟩
  rw [intEq]
  refine ite2 (fun z => ?_) (fun z => ?_)
  · rw [if_pos (by simpa using z)] at hx
    obtain ⟨dx, hx⟩ := hx
    exact ⟨_, rfl, x, c.num, dx, _, .int n, rfl, hx, L.num, L.num0, rfl, _, rfl, rfl, eqT k⟩
  have z0 : ¬ cc % 5 = 0 := by simpa using z
  rw [if_neg z0] at hx
  refine ⟨_, rfl, rfl, _, rfl, ?_⟩
  rw [intEq]
  refine ite2 (fun z => ?_) (fun z => ?_)
  · have z2 : cc % 5 = 2 := by simpa using z
    rw [if_neg (by omega), if_pos z2] at hx
    obtain ⟨dx, hx⟩ := hx
    exact ⟨_, rfl, x, c.cell, dx, _, .int r, rfl, hx, L.cell, L.cell0, rfl, _, rfl, rfl, eqT k⟩
  have z2 : ¬ cc % 5 = 2 := by simpa using z
  refine ⟨_, rfl, rfl, _, rfl, ?_⟩
  rw [intEq]
  refine ite2 (fun z => ?_) (fun z => ?_)
  · have z3 : cc % 5 = 3 := by simpa using z
    rw [if_neg (by omega), if_neg z2, if_pos z3] at hx
    obtain ⟨dx, hx⟩ := hx
    refine ⟨_, rfl, x, c.shi, dx, _, .int r, rfl, hx, L.shi, L.shi0, rfl, _, rfl, rfl, _, rfl, ?_⟩
    rw [decide_eq_true rfl]
    refine iteT ⟨_, rfl, x, c.shi, dx, _, .int (byF cc), rfl, hx, L.shi, L.shi1, rfl, _, rfl, rfl, _, rfl, ?_⟩
    rw [decide_eq_true rfl]
    exact iteT ⟨_, rfl, x, c.shi, dx, _, .int n, rfl, hx, L.shi, L.shi2, rfl, _, rfl, rfl, eqT k⟩
  have z3 : ¬ cc % 5 = 3 := by simpa using z
  refine ⟨_, rfl, rfl, _, rfl, ?_⟩
  rw [intEq]
  refine ite2 (fun z => ?_) (fun z => ?_)
  · have z4 : cc % 5 = 4 := by simpa using z
    rw [if_neg (by omega), if_neg z2, if_neg z3] at hx
    obtain ⟨dx, hx⟩ := hx
    exact ⟨_, rfl, x, c.loc, dx, _, .int (atF cc), rfl, hx, L.loc, L.loc0, rfl, _, rfl, rfl, eqT k⟩
  · exact k
def spDue (K : PySem.W.Frag) : Sp := fun vs H Q _ => ∃ (a : Addr) (how : Int) (part : List Int) (pl b n g : Int), vs = [.int how, .ref a, .int pl, .int b, .int n, .int g] ∧ SqL K H a (part.map V.int) ∧ 1 ≤ part.length ∧ (how = 2 → part.length ≠ 1 → 0 ≤ pl ∧ pl < part.length) ∧ Q (.int (dueF how part pl b n g)) H
theorem ok_due (d : DefIn K mg "_law_due" s_l_due ["_law_how", "_law_part", "_law_place", "_law_by_here", "_law_number", "_law_given"]) (hlen : mg "len" = none) : Ok P w K mg base (CXe P w base) 1 "_law_due" ["_law_how", "_law_part", "_law_place", "_law_by_here", "_law_number", "_law_given"] (spDue K) := by
  obtain ⟨g, fd, m, F, b⟩ := d
  refine ⟨g, fd, m, F.kp, b, F.okE sc_l_due (fun vs H Q E ⟨_, _, _, _, _, _, _, e, _⟩ => by rw [e]; rfl) fun cdv A outer s H vs Q E hr h => ?_⟩
  obtain ⟨a, how, part, pl, b, n, g, rfl, hS, h1, h2, k⟩ := h
  refine ⟨_, (pss_cons (ps_if (pt_cmpR op_eq (pv 0) pe_int (nomark _)) (pss_one (ps_ret (pv 4))) pss_nil)
      (pss_cons (ps_if (pt_cmpR op_eq (pv 0) pe_int (nomark _)) (pss_one (ps_ret (pv 2))) pss_nil)
      (pss_cons (ps_if (pt_cmpR op_eq (pv 0) pe_int (nomark _)) (pss_cons (ps_if (pt_cmpR op_eq (pe_callB call_len_seq (by rfl) hlen PySem.boot_len (pa_cons (pv 1) pa_nil)) pe_int (nomark _)) (pss_one (ps_ret (pe_ix ix_list (pv 1) pe_int (fun _ _ => rfl)))) pss_nil)
      (pss_one (ps_ret (pe_ix ix_list (pv 1) (pv 2) (fun _ _ => rfl))))) pss_nil)
      (pss_cons (ps_if (pt_cmpR op_eq (pv 0) pe_int (nomark _)) (pss_cons (ps_if (pt_chain op_le op_lt pe_int (pe_op op_add (pv 2) (pv 3)) (pe_callB call_len_seq (by rfl) hlen PySem.boot_len (pa_cons (pv 1) pa_nil))) (pss_one (ps_ret (pe_ix ix_list (pv 1) (pe_op op_add (pv 2) (pv 3)) (fun _ _ => rfl)))) pss_nil)
      (pss_one (ps_ret (pv 4)))) pss_nil)
      (pss_one (ps_ret (pv 5))))))), ?_⟩
  unfold dueF at k
  refine ⟨_, rfl, rfl, _, rfl, ?_⟩
  rw [intEq]
  refine ite2 (fun z => ?_) (fun z => ?_)
  · rw [if_pos (by simpa using z)] at k
    exact ⟨_, rfl, k⟩
  rw [if_neg (by simpa using z)] at k
  refine ⟨_, rfl, rfl, _, rfl, ?_⟩
  rw [intEq]
  refine ite2 (fun z => ?_) (fun z => ?_)
  · rw [if_pos (by simpa using z)] at k
    exact ⟨_, rfl, k⟩
  rw [if_neg (by simpa using z)] at k
  refine ⟨_, rfl, rfl, _, rfl, ?_⟩
  rw [intEq]
  refine ite2 (fun z => ?_) (fun z => ?_)
  · have z2 : how = 2 := by simpa using z
    rw [if_pos z2] at k
    refine ⟨_, rfl, a, _, rfl, .inl hS, rfl, _, rfl, ?_⟩
    rw [intEq, List.length_map]
    refine ite2 (fun y => ?_) (fun y => ?_)
    · have y : (part.length : Int) = 1 := by simpa using y
      rw [if_pos (by omega)] at k
      exact ⟨_, rfl, a, _, 0, _, rfl, rfl, hS, at_int 0 (by omega) rfl, k⟩
    · have y : ¬ (part.length : Int) = 1 := by simpa using y
      rw [if_neg (by omega)] at k
      have q := h2 z2 (by omega)
      exact ⟨_, rfl, _, rfl, a, _, _, _, rfl, rfl, hS, at_int pl.toNat (by omega) (by omega), k⟩
  rw [if_neg (by simpa using z)] at k
  refine ⟨_, rfl, rfl, _, rfl, ?_⟩
  rw [intEq]
  refine ite2 (fun z => ?_) (fun z => ?_)
  · rw [if_pos (by simpa using z)] at k
    refine ⟨_, rfl, _, rfl, _, _, rfl, rfl, _, _, rfl, rfl, _, rfl, ?_⟩
    by_cases y : 0 ≤ pl + b
    · rw [decide_eq_true y]
      refine iteT ⟨_, rfl, a, _, rfl, .inl hS, _, _, rfl, rfl, _, rfl, ?_⟩
      rw [List.length_map]
      by_cases y2 : pl + b < part.length
      · rw [if_pos ⟨y, y2⟩] at k
        rw [decide_eq_true y2]
        exact iteT ⟨_, rfl, _, rfl, _, rfl, _, _, rfl, rfl, a, _, _, _, rfl, rfl, hS, at_int (pl + b).toNat (by omega) (by omega), k⟩
      · rw [if_neg (fun q => y2 q.2)] at k
        rw [decide_eq_false y2]
        exact iteF ⟨_, rfl, k⟩
    · rw [if_neg (fun q => y q.1)] at k
      rw [decide_eq_false y]
      exact iteF ⟨_, rfl, iteF ⟨_, rfl, k⟩⟩
  · rw [if_neg (by simpa using z)] at k
    exact ⟨_, rfl, k⟩
def spRight (P : Program) (w : World) (K : PySem.W.Frag) (mg : Str → Option Value) (base : Heap) (c : Cs) (CN OU : Addr) : Sp := fun vs H Q _ => ∃ (x s : Addr) (F : Fm) (S : SpotD) (d : Int), vs = [.ref x, .ref s, .int d] ∧ FormAt c H F x ∧ Worth P w K mg base c CN OU 3 F ∧ SpotAt c K H s S ∧ SpotOk S ∧ WF S F ∧ ev S F = .ok d ∧ ∀ (H' : Hp), Same H H' → Q (.bl true) H'
theorem ok_right {c : Cs} {CN OU : Addr} (d : DefIn K mg "_law_right" s_l_right ["_law_leaf", "_law_spot", "_law_due_here"]) (W : Ok P w K mg base (CXe P w base) 1 "_law_whole" ["_law_found"] (sp1 fun _ => .bl true)) : Ok P w K mg base (CXe P w base) 4 "_law_right" ["_law_leaf", "_law_spot", "_law_due_here"] (spRight P w K mg base c CN OU) := by
  obtain ⟨g, fd, m, F, b⟩ := d
  refine ⟨g, fd, m, F.kp, b, F.okE sc_l_right (fun vs H Q E ⟨_, _, _, _, _, e, _⟩ => by rw [e]; rfl) fun cdv A outer s H vs Q E hr h => ?_⟩
  obtain ⟨x, sp, F, S, dd, rfl, hx, hW, hs, ho, hw, he, k⟩ := h
  have nd := sc_l_right.nd
  have hr3 := hr
  have hr1 : Room 1 _ := hr.mono (by decide)
  refine ⟨_, (pss_cons (ps_set (i := 3) nd rfl (Or.inl rfl) (pe_methX hr3 passE (pv 0) (pa_cons (pv 1) pa_nil)))
      (pss_cons (ps_set (i := 4) nd rfl (Or.inl rfl) (pe_methX hr3 passE (pv 0) (pa_cons (pv 1) pa_nil)))
      (pss_one (ps_ret (pe_and (pe_ok W hr1 (by rfl) passF (pa_cons (pv 3) pa_nil)) (pe_and (pe_cmpR op_eq (pv 3) (pv 2) (nomark _)) (pe_and (pe_ok W hr1 (by rfl) passF (pa_cons (pv 4) pa_nil)) (pe_one (pe_cmpR op_eq (pv 4) (pv 2) (nomark _)))))))))), ?_⟩
  obtain ⟨C1, dx1, fs1, sp1, e1, d1, l1, u1⟩ := hW x H hx
  refine ⟨_, rfl, x, C1, dx1, fs1, sp1, rfl, e1, d1, l1, _, rfl, u1 sp S _ E hs ho hw fun H1 s1 => ?_⟩
  rw [he]
  obtain ⟨C2, dx2, fs2, sp2, e2, d2, l2, u2⟩ := hW x H1 (hx.same s1)
  refine ⟨_, rfl, x, C2, dx2, fs2, sp2, rfl, e2, d2, l2, _, rfl, u2 sp S _ E (hs.same s1) ho hw fun H2 s2 => ?_⟩
  rw [he]
  have kk := k H2 (s1.trans s2)
  refine ⟨_, rfl, _, rfl, true, rfl, iteT ⟨_, rfl, _, rfl, rfl, _, rfl, ?_⟩⟩
  rw [decide_eq_true rfl]
  refine iteT ⟨_, rfl, _, rfl, true, rfl, iteT ⟨_, rfl, _, rfl, rfl, ?_⟩⟩
  exact eqT kk
def spSpotR (c : Cs) (K : PySem.W.Frag) : Sp := fun vs H Q _ => ∃ (s dx l f e o a1 a2 a3 : Addr) (sz cs own : List Int) (pl : Int), vs = [.ref s, .ref a1, .ref a2, .int pl, .ref a3] ∧ H s = some (.ins c.spot dx [("lengths", .ref l), ("functions", .ref f), ("cells", .ref e), ("place", .int pl), ("own", .ref o)]) ∧
  SqL K H l (sz.map V.int) ∧ SqL K H a1 (sz.map V.int) ∧ SqL K H f [] ∧ SqL K H e (cs.map V.int) ∧ SqL K H a2 (cs.map V.int) ∧ SqL K H o (own.map V.int) ∧ SqL K H a3 (own.map V.int) ∧ ∀ H', Same H H' → Q (.bl true) H'
theorem ok_spotR {c : Cs} (d : DefIn K mg "_law_spot_right" s_l_spot_right ["_law_spot", "_law_sizes", "_law_cells", "_law_place", "_law_own"]) (sc : SpotC K c.spot) : Ok P w K mg base (CXe P w base) 1 "_law_spot_right" ["_law_spot", "_law_sizes", "_law_cells", "_law_place", "_law_own"] (spSpotR c K) := by
  obtain ⟨g, fd, m, F, b⟩ := d
  refine ⟨g, fd, m, F.kp, b, F.okE sc_l_spot_right (fun vs H Q E ⟨_, _, _, _, _, _, _, _, _, _, _, _, _, e, _⟩ => by rw [e]; rfl) fun cdv A outer s H vs Q E hr h => ?_⟩
  obtain ⟨sp, dx, l, f, e, o, a1, a2, a3, sz, cs, own, pl, rfl, h0, h1, h2, h3, h4, h5, h6, h7, k⟩ := h
  have hu := hr.units
  refine ⟨_, (pss_cons (ps_if (pw_or (pt_cmpR (op_neD hu) (pe_fld (pv 0) rfl) (pv 1) (nomark _)) (pw_or (pt_cmpR (op_neD hu) (pe_fld (pv 0) rfl) (pe_lst pa_nil) (nomark _)) (pw_or1 (pt_cmpR (op_neD hu) (pe_fld (pv 0) rfl) (pv 2) (nomark _))))).pt (pss_one (ps_ret pe_bl)) pss_nil)
      (pss_one (ps_ret (pe_and (pe_cmpR op_eq (pe_fld (pv 0) rfl) (pv 3) (nomark _)) (pe_one (pe_cmpR (op_eqD hu) (pe_fld (pv 0) rfl) (pv 4) (nomark _))))))), ?_⟩
  refine ⟨_, rfl, sp, c.spot, dx, _, .ref l, rfl, h0, sc.c, sc.n0, rfl, _, rfl, dI sz, dI sz, dv_ints h1, dv_ints h2, lay_ints, lay_ints, Nat.le_trans dep_ints (by decide), _, rfl, ?_⟩
  rw [SeqAt.eqv_refl _ lay_ints]
  refine iteF ⟨_, rfl, sp, c.spot, dx, _, .ref f, rfl, h0, sc.c, sc.n1, rfl, (by show 0 ≤ sizeLine; decide), fun t nt => ?_⟩
  have s1 : Same H (upd H t (.lst [])) := same_upd (Same.refl H) nt
  refine ⟨.list [], .list [], .lst (sql_same h3 s1) .nil, .lst (SqL.of upd_same) .nil, rfl, rfl, Nat.le_trans (dep_list dep_nil) (show 0 + 1 ≤ 64 by decide), _, rfl, ?_⟩
  rw [SeqAt.eqv_refl _ (show (PyData.list []).canLay0 = true from rfl)]
  revert s1
  generalize upd H t (.lst []) = H1
  intro s1
  refine iteF ⟨_, rfl, sp, c.spot, dx, _, .ref e, rfl, s1 _ _ h0, sc.c, sc.n2, rfl, _, rfl, dI cs, dI cs, dv_ints (sql_same h4 s1), dv_ints (sql_same h5 s1), lay_ints, lay_ints, Nat.le_trans dep_ints (by decide), _, rfl, ?_⟩
  rw [SeqAt.eqv_refl _ lay_ints]
  refine iteF ?_
  refine ⟨_, rfl, sp, c.spot, dx, _, .int pl, rfl, s1 _ _ h0, sc.c, sc.n3, rfl, _, rfl, rfl, _, rfl, ?_⟩
  rw [decide_eq_true rfl]
  refine iteT ⟨_, rfl, sp, c.spot, dx, _, .ref o, rfl, s1 _ _ h0, sc.c, sc.n4, rfl, _, rfl, dI own, dI own, dv_ints (sql_same h6 s1), dv_ints (sql_same h7 s1), lay_ints, lay_ints, Nat.le_trans dep_ints (by decide), ?_⟩
  rw [SeqAt.eqv_refl _ lay_ints]
  exact k _ s1
end
end K08

namespace K08
open PySem L2 FM
theorem getD_set {rs : List (List Int)} {r : Nat} {ys : List Int} (h : r < rs.length) : (rs.set r ys).getD r [] = ys := by
  rw [List.getD_eq_getElem?_getD, List.getElem?_set, if_pos rfl, if_pos h]; rfl
theorem lens_set : ∀ {rs : List (List Int)} {r : Nat} {ys : List Int}, ys.length = (rs.getD r []).length → lensOf (rs.set r ys) = lensOf rs
  | [], _, _, _ => rfl
  | x :: rs, 0, ys, h => by
    have h : ys.length = x.length := h
    show ((ys.length : Int) :: lensOf rs) = ((x.length : Int) :: lensOf rs)
    rw [h]
  | x :: rs, r + 1, ys, h => by
    show ((x.length : Int) :: lensOf (rs.set r ys)) = ((x.length : Int) :: lensOf rs)
    rw [lens_set (rs := rs) (r := r) h]
theorem set_self : ∀ {rs : List (List Int)} {r : Nat}, rs.set r (rs.getD r []) = rs
  | [], _ => rfl
  | x :: rs, 0 => rfl
  | x :: rs, r + 1 => by
    show x :: rs.set r (rs.getD r []) = x :: rs
    rw [set_self]
theorem flat_set : ∀ (rs : List (List Int)) (r : Nat) (ys : List Int) (j : Nat) (v : Int), r < rs.length → j < ys.length → 0 ≤ ((lensOf rs).take r).sum ∧ ((rs.set r ys).flatten).set (((lensOf rs).take r).sum.toNat + j) v = (rs.set r (ys.set j v)).flatten
  | [], r, _, _, _, h, _ => by cases h
  | x :: rs, 0, ys, j, v, _, hj => by
    refine ⟨by simp, ?_⟩
    show ((ys ++ rs.flatten) : List Int).set (0 + j) v = ys.set j v ++ rs.flatten
    rw [Nat.zero_add, List.set_append, if_pos hj]
  | x :: rs, r + 1, ys, j, v, h, hj => by
    obtain ⟨a, b⟩ := flat_set rs r ys j v (Nat.lt_of_succ_lt_succ h) hj
    have e : ((lensOf (x :: rs)).take (r + 1)).sum = (x.length : Int) + ((lensOf rs).take r).sum := by
      show (((x.length : Int) :: lensOf rs).take (r + 1)).sum = _
      rw [List.take_succ_cons, List.sum_cons]
    refine ⟨by omega, ?_⟩
    rw [e, show ((x.length : Int) + ((lensOf rs).take r).sum).toNat + j = x.length + (((lensOf rs).take r).sum.toNat + j) by omega]
    show ((x ++ (rs.set r ys).flatten) : List Int).set _ v = x ++ (rs.set r (ys.set j v)).flatten
    rw [List.set_append, if_neg (by omega), Nat.add_sub_cancel_left, b]
theorem mix_set {xs ys : List Int} {j : Nat} (h : j < xs.length) (e : ys.length = xs.length) : (ys.take j ++ xs.drop j).set j (ys.getD j 0) = ys.take (j + 1) ++ xs.drop (j + 1) := by
  have l : (ys.take j).length = j := by rw [List.length_take]; omega
  rw [List.set_append, if_neg (by omega), l, Nat.sub_self]
  have d : xs.drop j = xs.getD j 0 :: xs.drop (j + 1) := by
    rw [List.drop_eq_getElem_cons h, List.getD_eq_getElem?_getD, List.getElem?_eq_getElem h]; rfl
  rw [d, take_snoc (by omega)]
  simp
theorem lens_getD {rs : List (List Int)} {r : Nat} (h : r < rs.length) : (lensOf rs).getD r 0 = ((rs.getD r []).length : Int) := by
  rw [List.getD_eq_getElem?_getD, List.getD_eq_getElem?_getD, List.getElem?_map, List.getElem?_eq_getElem h]; rfl
theorem lens_nn {rs : List (List Int)} {v : Int} (h : v ∈ lensOf rs) : 0 ≤ v := by
  obtain ⟨x, _, rfl⟩ := List.mem_map.mp h
  omega
/-- what a leaf's worth comes to -/
theorem leaf_ev {rs : List (List Int)} {r : Nat} {c n pl g : Int} {own : List Int} (hr : r < rs.length) (h1 : 1 ≤ (rs.getD r []).length) (hn : Kin n) (hp0 : 0 ≤ pl) (hp : pl < 400) (hpl : c % 5 = 2 → (rs.getD r []).length ≠ 1 → pl < (rs.getD r []).length)
    (hk : ∀ v ∈ rs.flatten, Kin v) (ho : ∀ v ∈ own, Kin v) (h4 : c % 5 = 4 → own.length = 6 ∧ g = own.getD (atF c).toNat 0) :
    SpotOk ⟨lensOf rs, rs.flatten, pl, own⟩ ∧ WF ⟨lensOf rs, rs.flatten, pl, own⟩ (leafF c (r : Int) n) ∧ ev ⟨lensOf rs, rs.flatten, pl, own⟩ (leafF c (r : Int) n) = .ok (dueF (c % 5) (rs.getD r []) pl (byF c) n g) := by
  have len : SpotD.len ⟨lensOf rs, rs.flatten, pl, own⟩ (r : Int) = ((rs.getD r []).length : Int) := lens_getD hr
  have has : SpotD.has ⟨lensOf rs, rs.flatten, pl, own⟩ (r : Int) := ⟨by omega, by show r < (lensOf rs).length; rw [List.length_map]; exact hr⟩
  have cell : ∀ q : Int, 0 ≤ q → q < (rs.getD r []).length → SpotD.cellAt ⟨lensOf rs, rs.flatten, pl, own⟩ (r : Int) q = (rs.getD r []).getD q.toNat 0 := fun q q0 q1 => by
    obtain ⟨a, b⟩ := flat_at rs r q.toNat hr (by omega)
    show rs.flatten.getD (((lensOf rs).take r).sum + q).toNat 0 = _
    rw [← b]
    congr 1
    omega
  have ok : SpotOk ⟨lensOf rs, rs.flatten, pl, own⟩ := ⟨fun v hv => lens_nn hv, lens_sum rs, hk, ho, by show Kin pl; omega⟩
  refine ⟨ok, ?_⟩
  unfold leafF dueF
  by_cases z0 : c % 5 = 0
  · rw [if_pos z0, if_pos z0]; exact ⟨hn, rfl⟩
  rw [if_neg z0, if_neg z0]
  by_cases z1 : c % 5 = 1
  · rw [if_pos z1, if_pos z1]; exact ⟨trivial, rfl⟩
  rw [if_neg z1, if_neg z1]
  by_cases z2 : c % 5 = 2
  · rw [if_pos z2, if_pos z2]
    refine ⟨⟨has, by rw [len]; omega, fun y => ?_⟩, ?_⟩
    · rw [len] at y ⊢
      exact ⟨hp0, by have := hpl z2 (by omega); show pl < _; omega⟩
    · show (if SpotD.len _ (r : Int) = 1 then Res.ok _ else Res.ok _) = _
      rw [len]
      by_cases y : (rs.getD r []).length = 1
      · rw [if_pos (by omega), if_pos y, cell 0 (by omega) (by omega)]; rfl
      · rw [if_neg (by omega), if_neg y]
        show Res.ok (SpotD.cellAt _ _ pl) = _
        rw [cell pl hp0 (by have := hpl z2 y; omega)]
  rw [if_neg z2, if_neg z2]
  by_cases z3 : c % 5 = 3
  · rw [if_pos z3, if_pos z3]
    refine ⟨⟨has, hn⟩, ?_⟩
    show (if 0 ≤ pl + byF c ∧ pl + byF c < SpotD.len _ (r : Int) then Res.ok (SpotD.cellAt _ _ (pl + byF c)) else Res.ok n) = _
    rw [len]
    by_cases y : 0 ≤ pl + byF c ∧ pl + byF c < ((rs.getD r []).length : Int)
    · rw [if_pos y, if_pos y, cell _ y.1 y.2]
    · rw [if_neg y, if_neg y]
  · rw [if_neg z3, if_neg z3]
    obtain ⟨l6, eg⟩ := h4 (by omega)
    have q := atF_in c
    exact ⟨⟨q.1, by show (atF c).toNat < own.length; omega⟩, by rw [eg]; rfl⟩
theorem leaf_obj {cs : Cs} {H : Hp} {c r n : Int} {x : Addr} (h : FormAt cs H (leafF c r n) x) : ∃ o, H x = some o ∧ ∀ H', H' x = some o → FormAt cs H' (leafF c r n) x := by
  unfold leafF at *
  by_cases z0 : c % 5 = 0
  · rw [if_pos z0] at h ⊢
    obtain ⟨dx, h⟩ := h; exact ⟨_, h, fun H' e => ⟨dx, e⟩⟩
  rw [if_neg z0] at h ⊢
  by_cases z1 : c % 5 = 1
  · rw [if_pos z1] at h ⊢
    obtain ⟨dx, h⟩ := h; exact ⟨_, h, fun H' e => ⟨dx, e⟩⟩
  rw [if_neg z1] at h ⊢
  by_cases z2 : c % 5 = 2
  · rw [if_pos z2] at h ⊢
    obtain ⟨dx, h⟩ := h; exact ⟨_, h, fun H' e => ⟨dx, e⟩⟩
  rw [if_neg z2] at h ⊢
  by_cases z3 : c % 5 = 3
  · rw [if_pos z3] at h ⊢
    obtain ⟨dx, h⟩ := h; exact ⟨_, h, fun H' e => ⟨dx, e⟩⟩
  rw [if_neg z3] at h ⊢
  obtain ⟨dx, h⟩ := h; exact ⟨_, h, fun H' e => ⟨dx, e⟩⟩
/-- what isinstance asks of a class -/
structure InsC (K : PySem.W.Frag) (C FO : Addr) : Prop where
  cl : Cls K C
  k1 : PySem.W.findIn K (.ref C) "__class__" = some (some (.builtin "object.__class__"))
  k2 : PySem.W.specialIn K (.builtin "object.__class__") "__get__" = some (some (.builtin "getset_descriptor.__get__"))
  k3 : PySem.W.takesIn K (.builtin "object.__class__") = some true
  k4 : PySem.W.mroIn K C (.type "object") = some true
  k5 : PySem.W.kitOne K (.ref C) (.ref FO) = some true
structure InsL (K : PySem.W.Frag) (c : Cs) (FO : Addr) : Prop where
  num : InsC K c.num FO
  here : InsC K c.here FO
  cell : InsC K c.cell FO
  shi : InsC K c.shi FO
  loc : InsC K c.loc FO
theorem ins_ty {K : PySem.W.Frag} {C FO dx x : Addr} {fs : List (Str × V)} {H : Hp} (h : InsC K C FO) (e : H x = some (.ins C dx fs)) : ∃ C, TyX K H (.ref x) (.ref C) ∧ PySem.W.kitOne K (.ref C) (.ref FO) = some true := ⟨C, .inl (.ins e h.cl h.k1 h.k2 h.k3 h.k4), h.k5⟩
theorem leaf_ty {K : PySem.W.Frag} {cs : Cs} {FO : Addr} {H : Hp} {c r n : Int} {x : Addr} (L : InsL K cs FO) (h : FormAt cs H (leafF c r n) x) : ∃ C, TyX K H (.ref x) (.ref C) ∧ PySem.W.kitOne K (.ref C) (.ref FO) = some true := by
  unfold leafF at h
  split at h
  · obtain ⟨dx, h⟩ := h; exact ins_ty L.num h
  split at h
  · obtain ⟨dx, h⟩ := h; exact ins_ty L.here h
  split at h
  · obtain ⟨dx, h⟩ := h; exact ins_ty L.cell h
  split at h
  · obtain ⟨dx, h⟩ := h; exact ins_ty L.shi h
  · obtain ⟨dx, h⟩ := h; exact ins_ty L.loc h
end K08

namespace K08
open PySem L2 FM
section
variable {P : Program} {w : World} {K : PySem.W.Frag} {mg : Str → Option Value} {base : Heap}
def spOne (K : PySem.W.Frag) : Sp := fun vs H Q _ => ∃ (sz rw : Addr) (c n : Int) (ps : List Addr) (rs : List (List Int)), vs = [.int c, .int n, .ref sz, .ref rw] ∧ SqL K H sz ((lensOf rs).map V.int) ∧ Kin n ∧ SqL K H rw (ps.map V.ref) ∧ ps.length = rs.length ∧ 1 ≤ rs.length ∧ rs.length ≤ 5 ∧
  (∀ i, i < ps.length → H (ps.getD i 0) = some (.lst ((rs.getD i []).map V.int)) ∧ 1 ≤ (rs.getD i []).length ∧ (rs.getD i []).length ≤ 9 ∧ ∀ v ∈ rs.getD i [], Kin v) ∧ ∀ H', Same H H' → Q (.bl true) H'
theorem ok_one {c : Cs} {CN OU FO : Addr} (d : DefIn K mg "_law_one" s_l_one ["_law_cell", "_law_number", "_law_sizes", "_law_rows"]) (hlen : mg "len" = none) (hrg : mg "range" = none) (hlist : mg "list" = none) (hsum : mg "sum" = none) (hisi : mg "isinstance" = none) (hForm : mg "Form" = some (.ref FO)) (ILs : InsL K c FO)
    (WL : ∀ a b e, Worth P w K mg base c CN OU 3 (leafF a b e)) (hCs : mg "Spot" = some (.ref c.spot)) (KB : Ok P w K mg base (CXe P w base) 1 "_law_kept_by" ["_law_cell"] spKB) (MX : Ok P w K mg base (CXe P w base) 1 "_law_mix" ["_law_cell", "_law_factor", "_law_prime"] spMix)
    (IS : OkI P w K mg base (CXe P w base) 1 c.spot ["self", "lengths", "functions", "cells", "place", "own"] (spI_Spot c.spot)) (PL : Ok P w K mg base (CXe P w base) 2 "_law_place_by" ["_law_cell", "_law_how", "_law_length"] spPl) (LF : Ok P w K mg base (CXe P w base) 3 "_law_leaf_by" ["_law_cell", "_law_row", "_law_number"] (spLeaf c))
    (SR : Ok P w K mg base (CXe P w base) 1 "_law_spot_right" ["_law_spot", "_law_sizes", "_law_cells", "_law_place", "_law_own"] (spSpotR c K)) (FL : Ok P w K mg base (CXe P w base) 1 "_law_fields" ["_law_leaf", "_law_how", "_law_row", "_law_by_here", "_law_number", "_law_at"] (spFields c))
    (BY : Ok P w K mg base (CXe P w base) 1 "_law_by" ["_law_cell"] spBy) (RT : Ok P w K mg base (CXe P w base) 4 "_law_right" ["_law_leaf", "_law_spot", "_law_due_here"] (spRight P w K mg base c CN OU)) (DU : Ok P w K mg base (CXe P w base) 1 "_law_due" ["_law_how", "_law_part", "_law_place", "_law_by_here", "_law_number", "_law_given"] (spDue K)) :
    Ok P w K mg base CX0 5 "_law_one" ["_law_cell", "_law_number", "_law_sizes", "_law_rows"] (spOne K) := by
  obtain ⟨gg, fd, m, F, b⟩ := d
  refine ⟨gg, fd, m, F.kp, b, F.ok sc_l_one (fun vs H Q E ⟨_, _, _, _, _, _, e, _⟩ => by rw [e]; rfl) fun cdv A outer s H vs Q E hr h => ?_⟩
  obtain ⟨sz, rw, cc, n, ps, rs, rfl, hS, hn, hR, hl, hl1, hl5, hP, k⟩ := h
  have nd := sc_l_one.nd
  have hr4 := hr
  have hr1 : Room 1 _ := hr.mono (by decide)
  have hr2 : Room 2 _ := hr.mono (by decide)
  have hr3 : Room 3 _ := hr.mono (by decide)
  have hu := hr.units
  have SL : (600 : Nat) < sizeLine := by decide
  refine ⟨_, (pss_cons (ps_set (i := 4) nd rfl (Or.inl rfl) (pe_op op_mod (pv 0) pe_int))
      (pss_cons (ps_set (i := 5) nd rfl (Or.inl rfl) (pe_op op_mod (pe_ok MX hr1 (by rfl) passF (pa_cons (pv 0) (pa_cons pe_int (pa_cons pe_int pa_nil)))) (pe_callB call_len_seq (by rfl) hlen PySem.boot_len (pa_cons (pv 3) pa_nil))))
      (pss_cons (ps_set (i := 6) nd rfl (Or.inl rfl) (pe_ok PL hr2 (by rfl) passF (pa_cons (pv 0) (pa_cons (pv 4) (pa_cons (pe_callB call_len_seq (by rfl) hlen PySem.boot_len (pa_cons (pe_ix ix_list (pv 3) (pv 5) (fun _ _ => rfl)) pa_nil)) pa_nil)))))
      (pss_cons (ps_set (i := 7) nd rfl (Or.inl rfl) (pe_op op_mod (pe_ok MX hr1 (by rfl) passF (pa_cons (pv 0) (pa_cons pe_int (pa_cons pe_int pa_nil)))) pe_int))
      (pss_cons (ps_set (i := 8) nd rfl (Or.inl rfl) (pe_lst pa_nil))
      (pss_cons (ps_set (i := 9) nd rfl (Or.inl rfl) pe_int)
      (pss_cons (ps_mid (ps_if (pt_cmpR op_eq (pv 4) pe_int (nomark _)) (pss_cons (ps_compC (i := 8) ["_law_j", "_law_cell"] [none, some 0] rfl rfl rfl (pi_range1 rfl hrg (pa_cons pe_int pa_nil)) (fun s3 H3 fp => ⟨pg_name (i := 0) (show ((["_law_j", "_law_cell"] : List Str)).Nodup by decide +kernel) rfl (Or.inl rfl), (pe_ok KB hr1 (by rfl) passF (pa_cons (pe_op op_add (pe_op op_fdiv (pv 1) pe_int) (pe_op op_mul (pe_op op_mul pe_int (pv 0)) (pv 0))) pa_nil))⟩) nd rfl (Or.inl rfl))
      (pss_one (ps_set (i := 9) nd rfl (Or.inl rfl) (pe_ix ix_list (pv 8) (pv 7) (fun _ _ => rfl))))) pss_nil))
      (pss_cons (ps_set (i := 11) nd rfl (Or.inl rfl) (pe_ok LF hr3 (by rfl) passF (pa_cons (pv 0) (pa_cons (pv 5) (pa_cons (pv 1) pa_nil)))))
      (pss_cons (ps_set (i := 12) nd rfl (Or.inl rfl) (pe_lst pa_nil))
      (pss_cons (ps_for PassesOwn.never rfl (pi_list (pv 3)) (pg_name (i := 13) nd rfl (Or.inl rfl)) (pss_one (ps_expr (pe_bm PySem.F.plainAttrs_list PySem.F.slot_list_extend PySem.F.type_list_extend mt_extend (pv 12) (pa_cons (pv 13) pa_nil)))))
      (pss_cons (ps_set (i := 14) nd rfl (Or.inl rfl) (pe_callTy call_list_of (by rfl) hlist PyProof.Rows.boot_list (pa_cons (pv 12) pa_nil)))
      (pss_cons (ps_set (i := 15) nd rfl (Or.inl rfl) (pe_callTy call_list_of (by rfl) hlist PyProof.Rows.boot_list (pa_cons (pv 8) pa_nil)))
      (pss_cons (ps_set (i := 16) nd rfl (Or.inl rfl) (pe_okI IS hCs hr2 (by rfl) passF (pa_cons (pe_callTy call_list_of (by rfl) hlist PyProof.Rows.boot_list (pa_cons (pv 2) pa_nil)) (pa_cons (pe_lst pa_nil) (pa_cons (pv 14) (pa_cons (pv 6) (pa_cons (pv 15) pa_nil)))))))
      (pss_cons (ps_if (pw_or (pt_not (pt_val (pe_ok SR hr1 (by rfl) passF (pa_cons (pv 16) (pa_cons (pv 2) (pa_cons (pv 12) (pa_cons (pv 6) (pa_cons (pv 8) pa_nil)))))))) (pw_or1 (pt_not (pt_val (pe_callB call_isinst (by rfl) hisi PyProof.Rows.boot_isinstance (pa_cons (pv 11) (pa_cons (pe_gref hForm) pa_nil))))))).pt (pss_one (ps_ret pe_bl)) pss_nil)
      (pss_cons (ps_if (pt_not (pt_val (pe_ok FL hr1 (by rfl) passF (pa_cons (pv 11) (pa_cons (pv 4) (pa_cons (pv 5) (pa_cons (pe_ok BY hr1 (by rfl) passF (pa_cons (pv 0) pa_nil)) (pa_cons (pv 1) (pa_cons (pv 7) pa_nil))))))))) (pss_one (ps_ret pe_bl)) pss_nil)
      (pss_cons (ps_if (pt_not (pt_val (pe_ok RT hr4 (by rfl) passF (pa_cons (pv 11) (pa_cons (pv 16) (pa_cons (pe_ok DU hr1 (by rfl) passF (pa_cons (pv 4) (pa_cons (pe_ix ix_list (pv 3) (pv 5) (fun _ _ => rfl)) (pa_cons (pv 6) (pa_cons (pe_ok BY hr1 (by rfl) passF (pa_cons (pv 0) pa_nil)) (pa_cons (pv 1) (pa_cons (pv 9) pa_nil))))))) pa_nil)))))) (pss_one (ps_ret pe_bl)) pss_nil)
      (pss_cons (ps_if (pw_or (pt_cmpR (op_neD hu) (pv 14) (pv 12) (nomark _)) (pw_or1 (pt_cmpR (op_neD hu) (pv 15) (pv 8) (nomark _)))).pt (pss_one (ps_ret pe_bl)) pss_nil)
      (pss_cons (ps_compC (i := 17) ["_law_j", "_law_cell"] [none, some 0] rfl rfl rfl (pi_range1 rfl hrg (pa_cons (pe_ix ix_list (pv 2) (pv 5) (fun _ _ => rfl)) pa_nil)) (fun s3 H3 fp => ⟨pg_name (i := 0) (show ((["_law_j", "_law_cell"] : List Str)).Nodup by decide +kernel) rfl (Or.inl rfl), (pe_ok KB hr1 (by rfl) passF (pa_cons (pe_op op_add (pe_op op_fdiv (pv 1) pe_int) (pe_op op_mul (pe_op op_mul pe_int (pv 0)) (pv 0))) pa_nil))⟩) nd rfl (Or.inl rfl))
      (pss_cons (ps_for PassesOwn.never rfl (pi_range1 rfl hrg (pa_cons (pe_ix ix_list (pv 2) (pv 5) (fun _ _ => rfl)) pa_nil)) (pg_name (i := 10) nd rfl (Or.inl rfl)) (pss_one (ps_asg (pe_ix ix_list (pv 17) (pv 10) (fun _ _ => rfl)) (pg_sub (pv 14) (pe_op op_add (pe_callB (call_sum rfl) (by rfl) hsum PyProof.Rows.boot_sum (pa_cons (pe_slice sl_list (pv 2) po_none (po_some (pv 5))) pa_nil)) (pv 10)) set_list))))
      (pss_cons (ps_mid (ps_if (pt_cmpR op_eq (pv 4) pe_int (nomark _)) (pss_cons (ps_asg (pv 1) (pg_sub (pv 15) (pv 7) set_list))
      (pss_one (ps_set (i := 9) nd rfl (Or.inl rfl) (pv 1)))) pss_nil))
      (pss_one (ps_ret (pe_ok RT hr4 (by rfl) passF (pa_cons (pv 11) (pa_cons (pv 16) (pa_cons (pe_ok DU hr1 (by rfl) passF (pa_cons (pv 4) (pa_cons (pv 17) (pa_cons (pv 6) (pa_cons (pe_ok BY hr1 (by rfl) passF (pa_cons (pv 0) pa_nil)) (pa_cons (pv 1) (pa_cons (pv 9) pa_nil))))))) pa_nil)))))))))))))))))))))))))), ?_⟩
  refine ⟨_, rfl, _, _, rfl, rfl, (by show (0 : Int) < 5; decide), ?_⟩
  refine ⟨_, rfl, _, _, _, rfl, by decide, by decide, by decide, _, rfl, rw, _, rfl, .inl hR, _, _, rfl, rfl, (by rw [List.length_map]; omega), ?_⟩
  rw [List.length_map]
  obtain ⟨ri, hri⟩ : ∃ ri : Int, cc * 48271 % 2147483647 % (ps.length : Int) = ri := ⟨_, rfl⟩
  have hri0 : 0 ≤ ri := by rw [← hri]; exact Int.emod_nonneg _ (by omega)
  have hri1 : ri < ps.length := by rw [← hri]; exact Int.emod_lt_of_pos _ (by omega)
  show gName 5 (.int (cc * 48271 % 2147483647 % (ps.length : Int))) _ _ _
  rw [hri]
  obtain ⟨r, rfl⟩ : ∃ r : Nat, ri = r := ⟨ri.toNat, by omega⟩
  have hrl : r < ps.length := by omega
  have hrr : r < rs.length := by omega
  obtain ⟨er, lr1, lr9, kr⟩ := hP r hrl
  refine ⟨_, rfl, _, rfl, _, rfl, _, rfl, rw, _, _, .ref (ps.getD r 0), rfl, rfl, hR, ref_at r hrl rfl, ps.getD r 0, _, rfl, .inl (SqL.of er), cc, _, _, rfl, (by rw [List.length_map]; omega), ?_⟩
  rw [List.length_map]
  have pq := plF_in (c := cc) (how := cc % 5) (ln := ((rs.getD r []).length : Int)) (by omega) (by omega)
  generalize plF cc (cc % 5) ((rs.getD r []).length : Int) = pl at pq ⊢
  refine ⟨_, rfl, _, _, _, rfl, by decide, by decide, by decide, _, _, rfl, rfl, (by show (0 : Int) < 6; decide), ?_⟩
  refine ⟨(by show 0 ≤ sizeLine; decide), fun oa noa => ?_⟩
  have h : Hd H [(oa, .lst [])] _ := Hd.base.new noa
  generalize upd H oa (.lst []) = H1 at h ⊢
  have q6 := atF_in cc
  refine ⟨fun σ' H' => ∃ (ow : Addr) (own : List Int) (g : Int), σ' = [some (.int cc), some (.int n), some (.ref sz), some (.ref rw), some (.int (cc % 5)), some (.int (r : Int)), some (.int pl), some (.int (atF cc)), some (.ref ow), some (.int g), none, none, none, none, none, none, none, none] ∧ (cc % 5 = 4 → own.length = 6 ∧ g = own.getD (atF cc).toNat 0) ∧ own.length ≤ 6 ∧ (∀ v ∈ own, Kin v) ∧ Hd H [(ow, .lst (own.map V.int))] H', ?_, ?_⟩
  · refine ⟨_, rfl, rfl, _, rfl, ?_⟩
    rw [intEq]
    refine ite2 (fun z => ?_) (fun z => ?_)
    · refine ⟨6, rfl, by decide, by decide, _, rfl, fun D nD => ?_⟩
      refine comp_range (lo := 0) (D := D) (n := 6) (fun i σ H2 => ∃ (u : Option V) (cs : List Int), σ = [u, some (.int cc)] ∧ cs.length = i ∧ (∀ v ∈ cs, Kin v) ∧ Hd H [(D, .lst (cs.map V.int)), (oa, .lst [])] H2) ?_ ?_ ?_
      · exact ⟨none, [], rfl, rfl, (fun v hv => nomatch hv), h.new nD⟩
      · rintro i σ H2 hi ⟨u, cs, rfl, hcs, hk, h⟩
        refine ⟨_, rfl, _, _, rfl, rfl, ⟨by decide, by decide⟩, _, rfl, _, _, rfl, rfl, .inl ⟨by decide, by decide⟩, _, rfl, _, _, rfl, rfl, .inl ⟨by omega, by omega⟩, _, _, rfl, rfl, _, rfl, fun H5 s5 => ⟨_, (h.same s5).get 0 rfl, ?_, some (.int (0 + i)), cs ++ [keptBy (cc / 13 + 17 * (0 + (i : Int)) * (0 + (i : Int)))], rfl, ?_, ?_, ?_⟩⟩
        · rw [List.length_map]; omega
        · rw [List.length_append, hcs]; rfl
        · intro v hv
          rcases List.mem_append.mp hv with y | y
          · exact hk v y
          · rw [List.mem_singleton.mp y]; exact keptBy_in _
        · rw [List.map_append]
          exact (h.same s5).put 0 rfl
      rintro σ H2 ⟨u, cs, rfl, hcs, hk, h⟩
      refine ⟨_, rfl, _, rfl, D, _, _, _, rfl, rfl, h.lst 0 rfl, at_int (atF cc).toNat (by omega) (by show atF cc = _; omega), ?_⟩
      exact ⟨D, cs, _, rfl, fun _ => ⟨hcs, rfl⟩, by omega, hk, h.sub (List.Sublist.cons₂ _ (List.nil_sublist _))⟩
    · exact ⟨oa, [], 0, rfl, fun y => absurd y (by simpa using z), by decide, (fun v hv => nomatch hv), h⟩
  clear h
  rintro σ H1 ⟨ow, own, g, rfl, h4, ho6, hok, h⟩
  -- the leaf
  refine ⟨_, rfl, _, rfl, _, rfl, cc, _, n, rfl, fun x H2 s2 fx nx => ?_⟩
  obtain ⟨ox, ex, fxo⟩ := leaf_obj fx
  have h : Hd H [(x, ox), (ow, .lst (own.map V.int))] H2 := (h.same s2).add (fun p mp => ne_of_none (h.st p mp) nx) (h.free nx) ex
  -- the cells
  refine ⟨(by show 0 ≤ sizeLine; decide), fun ce nce => ?_⟩
  have h : Hd H [(ce, .lst []), (x, ox), (ow, .lst (own.map V.int))] _ := h.new nce
  generalize upd H2 ce (.lst []) = H3 at h ⊢
  refine ⟨_, rfl, rw, rfl, ⟨_, h.sql hR⟩, ?_⟩
  refine for_list (K := K) (a := rw) (xs := ps.map V.ref) (fun j σ J => ∃ u13, σ = [some (.int cc), some (.int n), some (.ref sz), some (.ref rw), some (.int (cc % 5)), some (.int (r : Int)), some (.int pl), some (.int (atF cc)), some (.ref ow), some (.int g), none, some (.ref x), some (.ref ce), u13, none, none, none, none] ∧ Hd H [(ce, .lst ((rs.take j).flatten.map V.int)), (x, ox), (ow, .lst (own.map V.int))] J) ⟨none, rfl, h⟩ (fun j σ J _ ⟨_, _, h⟩ => h.sql hR) ?_ ?_
  · clear h
    rintro j y σ J hj ⟨u13, rfl, h⟩
    obtain ⟨hjl, rfl⟩ := map_ref_at hj
    obtain ⟨ej, _, lj, _⟩ := hP j hjl
    refine ⟨_, rfl, .inl ⟨rfl, _, h.lst 0 rfl⟩, _, rfl, ce, ps.getD j 0, _, _, rfl, rfl, h.get 0 rfl, h.sm _ _ ej, ?_, some (.ref (ps.getD j 0)), rfl, ?_⟩
    · rw [List.length_map, List.length_map]
      have q := flat_len (rs := rs.take j) fun k hk => by
        rw [List.length_take] at hk
        have e : (rs.take j).getD k [] = rs.getD k [] := by rw [List.getD_eq_getElem?_getD, List.getElem?_take, if_pos (by omega), ← List.getD_eq_getElem?_getD]
        rw [e]
        exact (hP k (by omega)).2.2.1
      rw [List.length_take] at q
      omega
    · rw [take_flat (by omega), List.map_append]
      exact h.put 0 rfl
  clear h
  rintro σ J ⟨u13, rfl, h⟩
  rw [List.length_map, hl, List.take_length] at h
  refine ⟨_, rfl, ce, _, rfl, .inl (h.lst 0 rfl), fun ha nha => ?_⟩
  have h : Hd H [(ha, .lst (rs.flatten.map V.int)), (ce, .lst (rs.flatten.map V.int)), (x, ox), (ow, .lst (own.map V.int))] _ := h.new nha
  generalize upd J ha (.lst (rs.flatten.map V.int)) = J1 at h ⊢
  refine ⟨_, rfl, ow, _, rfl, .inl (h.lst 3 rfl), fun he nhe => ?_⟩
  have h : Hd H [(he, .lst (own.map V.int)), (ha, .lst (rs.flatten.map V.int)), (ce, .lst (rs.flatten.map V.int)), (x, ox), (ow, .lst (own.map V.int))] _ := h.new nhe
  generalize upd J1 he (.lst (own.map V.int)) = J2 at h ⊢
  -- the spot
  refine ⟨_, rfl, sz, _, rfl, .inl (h.sql hS), fun l1 n1 => ⟨(by show 0 ≤ sizeLine; decide), fun l2 n2 => ⟨_, rfl, _, rfl, _, rfl, fun xs dxs nxs ndxs ne => ⟨xs, dxs, _, _, _, _, _, rfl, upd_same, fun J3 k3 e3 => ⟨rfl, ?_⟩⟩⟩⟩⟩
  have h : Hd H [(xs, .ins c.spot dxs [("lengths", .ref l1), ("functions", .ref l2), ("cells", .ref ha), ("place", .int pl), ("own", .ref he)]), (dxs, .own xs), (l2, .lst []), (l1, .lst ((lensOf rs).map V.int)), (he, .lst (own.map V.int)), (ha, .lst (rs.flatten.map V.int)), (ce, .lst (rs.flatten.map V.int)), (x, ox), (ow, .lst (own.map V.int))] J3 := ((h.new n1).new n2).made0 nxs ndxs ne k3 e3
  refine ⟨_, rfl, _, rfl, _, rfl, _, rfl, _, rfl, xs, dxs, l1, l2, ha, he, sz, ce, ow, lensOf rs, rs.flatten, own, pl, rfl, h.get 0 rfl, h.lst 3 rfl, h.sql hS, h.lst 2 rfl, h.lst 5 rfl, h.lst 6 rfl, h.lst 4 rfl, h.lst 8 rfl, fun J4 s4 => ⟨true, rfl, iteF ?_⟩⟩
  have h := h.same s4
  obtain ⟨CT, ty, kt⟩ := leaf_ty ILs (fxo _ (h.get 7 rfl))
  refine ⟨_, rfl, _, _, .ref FO, .ref CT, true, rfl, rfl, (fun u r => r), ty, kt, true, rfl, iteF ?_⟩
  refine ⟨_, rfl, _, rfl, _, rfl, _, rfl, cc, rfl, _, rfl, _, rfl, x, cc, (r : Int), n, rfl, fxo _ (h.get 7 rfl), true, rfl, iteF ?_⟩
  have hkf : ∀ v ∈ rs.flatten, Kin v := fun v hv => by
    obtain ⟨i, hi, hv⟩ := rs_mem hv
    exact (hP i (by omega)).2.2.2 v hv
  obtain ⟨so, wf, evl⟩ := leaf_ev (rs := rs) (r := r) (c := cc) (n := n) (pl := pl) (g := g) (own := own) hrr lr1 hn pq.1 pq.2.1 (fun a b => by have := pq.2.2 a (by omega); omega) hkf hok h4
  refine ⟨_, rfl, _, rfl, _, rfl, _, rfl, _, rfl, rw, _, _, .ref (ps.getD r 0), rfl, rfl, h.sql hR, ref_at r hrl rfl, _, rfl, _, rfl, cc, rfl, _, rfl, _, rfl, ps.getD r 0, _, rs.getD r [], _, _, _, _, rfl, SqL.of (h.sm _ _ er), lr1, (fun a b => ⟨pq.1, by have := pq.2.2 a (by omega); omega⟩),
    x, xs, leafF cc (r : Int) n, ⟨lensOf rs, rs.flatten, pl, own⟩, _, rfl, fxo _ (h.get 7 rfl), WL _ _ _, ⟨dxs, l1, l2, ha, he, h.get 0 rfl, h.lst 3 rfl, h.lst 5 rfl, h.lst 4 rfl⟩, so, wf, evl, fun J5 s5 => ⟨true, rfl, iteF ?_⟩⟩
  have h := h.same s5
  refine ⟨_, rfl, _, rfl, dI rs.flatten, dI rs.flatten, dv_ints (h.lst 5 rfl), dv_ints (h.lst 6 rfl), lay_ints, lay_ints, Nat.le_trans dep_ints (by decide), _, rfl, ?_⟩
  rw [SeqAt.eqv_refl _ lay_ints]
  refine iteF ⟨_, rfl, _, rfl, dI own, dI own, dv_ints (h.lst 4 rfl), dv_ints (h.lst 8 rfl), lay_ints, lay_ints, Nat.le_trans dep_ints (by decide), _, rfl, ?_⟩
  rw [SeqAt.eqv_refl _ lay_ints]
  refine iteF ?_
  -- other numbers
  have hlr := lens_getD hrr
  have ea : atI ((lensOf rs).map V.int) (r : Int) = some (.int ((rs.getD r []).length : Int)) := by
    rw [← hlr]; exact at_int r (by rw [List.length_map]; omega) rfl
  refine ⟨_, rfl, _, rfl, sz, _, _, _, rfl, rfl, h.sql hS, ea, _, rfl, (by show -(2 ^ 62) ≤ (((rs.getD r []).length : Nat) : Int); omega), (by show (((rs.getD r []).length : Nat) : Int) < 2 ^ 62; omega), _, rfl, fun D nD => ?_⟩
  rw [Int.toNat_natCast]
  refine comp_range (lo := 0) (D := D) (n := (rs.getD r []).length) (fun i σ H2 => ∃ (u : Option V) (cs : List Int), σ = [u, some (.int cc)] ∧ cs.length = i ∧ (∀ v ∈ cs, Kin v) ∧ Hd H [(D, .lst (cs.map V.int)), (xs, .ins c.spot dxs [("lengths", .ref l1), ("functions", .ref l2), ("cells", .ref ha), ("place", .int pl), ("own", .ref he)]), (dxs, .own xs), (l2, .lst []), (l1, .lst ((lensOf rs).map V.int)), (he, .lst (own.map V.int)), (ha, .lst (rs.flatten.map V.int)), (ce, .lst (rs.flatten.map V.int)), (x, ox), (ow, .lst (own.map V.int))] H2) ?_ ?_ ?_
  · exact ⟨none, [], rfl, rfl, (fun v hv => nomatch hv), h.new nD⟩
  · clear h
    rintro i σ H2 hi ⟨u, cs, rfl, hcs, hk, h⟩
    refine ⟨_, rfl, _, _, rfl, rfl, ⟨by decide, by decide⟩, _, rfl, _, _, rfl, rfl, .inl ⟨by decide, by decide⟩, _, rfl, _, _, rfl, rfl, .inl ⟨by omega, by omega⟩, _, _, rfl, rfl, _, rfl, fun H5 s5 => ⟨_, (h.same s5).get 0 rfl, ?_, some (.int (0 + i)), cs ++ [keptBy (cc / 17 + 3 * (0 + (i : Int)) * (0 + (i : Int)))], rfl, ?_, ?_, ?_⟩⟩
    · rw [List.length_map]; omega
    · rw [List.length_append, hcs]; rfl
    · intro v hv
      rcases List.mem_append.mp hv with y | y
      · exact hk v y
      · rw [List.mem_singleton.mp y]; exact keptBy_in _
    · rw [List.map_append]
      exact (h.same s5).put 0 rfl
  clear h
  rintro σ J6 ⟨u, ot, rfl, hot, hko, h⟩
  refine ⟨_, rfl, _, rfl, sz, _, _, _, rfl, rfl, h.sql hS, ea, _, rfl, (by show -(2 ^ 62) ≤ (((rs.getD r []).length : Nat) : Int); omega), (by show (((rs.getD r []).length : Nat) : Int) < 2 ^ 62; omega), ?_⟩
  rw [Int.toNat_natCast]
  refine for_range (n := (rs.getD r []).length) (fun j σ J => ∃ u10, σ = [some (.int cc), some (.int n), some (.ref sz), some (.ref rw), some (.int (cc % 5)), some (.int (r : Int)), some (.int pl), some (.int (atF cc)), some (.ref ow), some (.int g), u10, some (.ref x), some (.ref ce), u13, some (.ref ha), some (.ref he), some (.ref xs), some (.ref D)] ∧ Hd H [(D, .lst (ot.map V.int)), (xs, .ins c.spot dxs [("lengths", .ref l1), ("functions", .ref l2), ("cells", .ref ha), ("place", .int pl), ("own", .ref he)]), (dxs, .own xs), (l2, .lst []), (l1, .lst ((lensOf rs).map V.int)), (he, .lst (own.map V.int)), (ha, .lst ((rs.set r (ot.take j ++ (rs.getD r []).drop j)).flatten.map V.int)), (ce, .lst (rs.flatten.map V.int)), (x, ox), (ow, .lst (own.map V.int))] J) ?_ ?_ ?_
  · refine ⟨none, rfl, ?_⟩
    rw [List.take_zero, List.drop_zero, List.nil_append, set_self]
    exact h
  · clear h
    rintro j σ J hj ⟨u10, rfl, h⟩
    obtain ⟨f0, f1⟩ := flat_set rs r (ot.take j ++ (rs.getD r []).drop j) j (ot.getD j 0) hrr (by rw [List.length_append, List.length_take, List.length_drop]; omega)
    refine ⟨_, rfl, _, rfl, D, _, _, _, rfl, rfl, h.lst 0 rfl, at_int j (by omega) (by omega), _, rfl, _, rfl, _, rfl, (r : Int), rfl, sz, _, rfl, h.sql hS, fun l3 n3 => ?_⟩
    rw [cutV_take (by omega), Int.toNat_natCast]
    have h' := (h.new (o := .lst (((lensOf rs).take r).map V.int)) n3)
    refine ⟨l3, _, rfl, h'.lst 0 rfl, _, rfl, _, _, rfl, rfl, ha, _, _, (((lensOf rs).take r).sum.toNat + j), rfl, rfl, h'.get 7 rfl, ?_, ?_⟩
    · have e : ((lensOf rs).take r).sum + (0 + (j : Int)) = ((((lensOf rs).take r).sum.toNat + j : Nat) : Int) := by omega
      rw [e]
      have ll : ((((lensOf rs).take r).sum.toNat + j : Nat) : Int) < (((rs.set r (ot.take j ++ (rs.getD r []).drop j)).flatten.map V.int).length : Int) := by
        rw [List.length_map]
        have a1 := lens_sum (rs.set r (ot.take j ++ (rs.getD r []).drop j))
        have a2 := lens_set (rs := rs) (r := r) (ys := ot.take j ++ (rs.getD r []).drop j) (by rw [List.length_append, List.length_take, List.length_drop]; omega)
        rw [a2] at a1
        have a3 := sum_take_succ (ns := lensOf rs) (i := r) (by rw [List.length_map]; exact hrr)
        have a4 := sum_mono (ns := lensOf rs) (fun v hv => lens_nn hv) (r + 1)
        rw [hlr] at a3
        omega
      exact ixN_nat (by omega) ll
    · rw [set_ints, f1, mix_set (by omega) hot]
      exact ⟨_, rfl, (h'.put 7 rfl).tl⟩
  clear h
  rintro σ J7 ⟨u10, rfl, h⟩
  have eot : ot.take (rs.getD r []).length ++ (rs.getD r []).drop (rs.getD r []).length = ot := by rw [← hot, List.take_length, hot, List.drop_length, List.append_nil]
  rw [eot] at h
  -- the number handed
  refine ⟨fun σ' H' => ∃ (own2 : List Int) (g2 : Int), σ' = [some (.int cc), some (.int n), some (.ref sz), some (.ref rw), some (.int (cc % 5)), some (.int (r : Int)), some (.int pl), some (.int (atF cc)), some (.ref ow), some (.int g2), u10, some (.ref x), some (.ref ce), u13, some (.ref ha), some (.ref he), some (.ref xs), some (.ref D)] ∧ (cc % 5 = 4 → own2.length = 6 ∧ g2 = own2.getD (atF cc).toNat 0) ∧ (∀ v ∈ own2, Kin v) ∧ Hd H [(D, .lst (ot.map V.int)), (xs, .ins c.spot dxs [("lengths", .ref l1), ("functions", .ref l2), ("cells", .ref ha), ("place", .int pl), ("own", .ref he)]), (dxs, .own xs), (l2, .lst []), (l1, .lst ((lensOf rs).map V.int)), (he, .lst (own2.map V.int)), (ha, .lst ((rs.set r ot).flatten.map V.int)), (ce, .lst (rs.flatten.map V.int)), (x, ox), (ow, .lst (own.map V.int))] H', ?_, ?_⟩
  · refine ⟨_, rfl, rfl, _, rfl, ?_⟩
    rw [intEq]
    refine ite2 (fun z => ?_) (fun z => ?_)
    · have z4 : cc % 5 = 4 := by simpa using z
      obtain ⟨l6, _⟩ := h4 z4
      refine ⟨_, rfl, _, rfl, _, rfl, he, _, _, (atF cc).toNat, rfl, rfl, h.get 5 rfl, ?_, ?_⟩
      · rw [List.length_map]; exact ixN_nat (by show 0 ≤ atF cc; omega) (by show atF cc < _; omega)
      rw [set_ints]
      refine ⟨_, rfl, own.set (atF cc).toNat n, _, rfl, fun _ => ⟨by rw [List.length_set]; exact l6, ?_⟩, fun v hv => ?_, h.put 5 rfl⟩
      · rw [List.getD_eq_getElem?_getD, List.getElem?_set, if_pos rfl, if_pos (by omega)]; rfl
      · rcases List.mem_or_eq_of_mem_set hv with y | y
        · exact hok v y
        · rw [y]; exact hn
    · exact ⟨own, g, rfl, fun y => absurd y (by simpa using z), hok, h⟩
  clear h
  rintro σ J8 ⟨own2, g2, rfl, h42, hok2, h⟩
  have els := lens_set (rs := rs) (r := r) (ys := ot) hot
  have egs := getD_set (rs := rs) (r := r) (ys := ot) hrr
  obtain ⟨so, wf, evl⟩ := leaf_ev (rs := rs.set r ot) (r := r) (c := cc) (n := n) (pl := pl) (g := g2) (own := own2) (by rw [List.length_set]; exact hrr) (by rw [egs]; omega) hn pq.1 pq.2.1 (fun a b => by rw [egs] at b ⊢; have := pq.2.2 a (by omega); omega) (fun v hv => by
    obtain ⟨i, hi, hv⟩ := rs_mem hv
    rw [List.length_set] at hi
    by_cases y : i = r
    · subst y; rw [egs] at hv; exact hko v hv
    · have e : (rs.set r ot).getD i [] = rs.getD i [] := by rw [List.getD_eq_getElem?_getD, List.getElem?_set, if_neg (Ne.symm y), ← List.getD_eq_getElem?_getD]
      rw [e] at hv
      exact (hP i (by omega)).2.2.2 v hv) hok2 h42
  rw [els, egs] at *
  exact ⟨_, rfl, _, rfl, _, rfl, _, rfl, _, rfl, _, rfl, cc, rfl, _, rfl, _, rfl, D, _, ot, _, _, _, _, rfl, h.lst 0 rfl, by omega, (fun a b => ⟨pq.1, by have := pq.2.2 a (by omega); omega⟩),
    x, xs, leafF cc (r : Int) n, ⟨lensOf rs, (rs.set r ot).flatten, pl, own2⟩, _, rfl, fxo _ (h.get 8 rfl), WL _ _ _, ⟨dxs, l1, l2, ha, he, h.get 1 rfl, h.lst 4 rfl, h.lst 6 rfl, h.lst 5 rfl⟩, so, wf, evl, fun J9 s9 => k _ (h.sm.trans s9)⟩
end
end K08

namespace K08
open PySem L2 FM
section
variable {P : Program} {w : World} {K : PySem.W.Frag} {mg : Str → Option Value} {base : Heap}
def spLaw (K : PySem.W.Frag) : Sp := fun vs H Q _ => ∃ (a : Addr) (ns : List Int), vs = [.ref a] ∧ SqL K H a (ns.map V.int) ∧ ns.length ≤ 63 ∧ ∀ H', Q (.bl true) H'
def szF (c : Int) : Int := if c % 3 = 0 then 1 else 1 + c / 3 % 9
theorem szF_in (c : Int) : 1 ≤ szF c ∧ szF c ≤ 9 := by unfold szF; split <;> omega
theorem ok_law {f : Addr} {fd : FuncData} (F : Fun K "law" "law" s_law f fd) (hlen : mg "len" = none) (hrg : mg "range" = none) (KB : Ok P w K mg base (CXe P w base) 1 "_law_kept_by" ["_law_cell"] spKB) (MX : Ok P w K mg base (CXe P w base) 1 "_law_mix" ["_law_cell", "_law_factor", "_law_prime"] spMix)
    (ON : Ok P w K mg base CX0 5 "_law_one" ["_law_cell", "_law_number", "_law_sizes", "_law_rows"] (spOne K)) : FnOk P w K mg base CX0 6 f fd ["_law_script"] (spLaw K) := by
  refine F.ok sc_law (fun vs H Q E ⟨_, _, e, _⟩ => by rw [e]; rfl) fun cdv A outer s H vs Q E hr h => ?_
  obtain ⟨a, ns, rfl, hS, hn, k⟩ := h
  have nd := sc_law.nd
  have hr5 := hr
  have hr1 : Room 1 _ := hr.mono (by decide)
  have SL : (600 : Nat) < sizeLine := by decide
  refine ⟨_, (pss_cons (ps_set (i := 1) nd rfl (Or.inl rfl) (pe_callB call_len_seq (by rfl) hlen PySem.boot_len (pa_cons (pv 0) pa_nil)))
      (pss_cons (ps_set (i := 2) nd rfl (Or.inr rfl) (pe_lst pa_nil))
      (pss_cons (ps_for PassesOwn.never rfl (pi_list (pe_slice sl_list (pv 0) po_none (po_some pe_int))) (pg_name (i := 3) nd rfl (Or.inl rfl)) (pss_one (ps_expr (pe_bm PySem.F.plainAttrs_list PySem.F.slot_list_append PySem.F.type_list_append mt_append (pv 2) (pa_cons (pe_ifExp (pt_cmpR op_eq (pe_op op_mod (pv 3) pe_int) pe_int (nomark _)) pe_int (pe_op op_add pe_int (pe_op op_mod (pe_op op_fdiv (pv 3) pe_int) pe_int))) pa_nil)))))
      (pss_cons (ps_comp1 (i := 4) "_law_j" ["_law_j", "_law_sizes"] [none, some 2] rfl rfl (fun _ _ => rfl) (fun _ => rfl) rfl (pi_range1 rfl hrg (pa_cons (pe_callB call_len_seq (by rfl) hlen PySem.boot_len (pa_cons (pv 2) pa_nil)) pa_nil)) (fun s3 H3 fp => ⟨pg_name (i := 0) (show ((["_law_j", "_law_sizes"] : List Str)).Nodup by decide +kernel) rfl (Or.inr rfl), (pe_compC ["_law_k", "_law_j", "_law_sizes"] [none, some 0, some 1] rfl rfl rfl (pi_range1 rfl hrg (pa_cons (pe_ix (ix_listK (K := K) rfl) (pv 1) (pv 0) (fun _ _ => rfl)) pa_nil)) (fun s4 H4 fp4 => ⟨pg_name (i := 0) (show ((["_law_k", "_law_j", "_law_sizes"] : List Str)).Nodup by decide +kernel) rfl (Or.inl rfl), (pe_ok KB hr1 (by rfl) passF (pa_cons (pe_op op_add (pe_op op_add (pe_op op_mul (pe_op op_mul (pv 1) (pv 1)) pe_int) (pe_op op_mul (pv 0) pe_int)) (pe_ix (ix_listK (K := K) rfl) (pv 2) (pv 1) (fun _ _ => rfl))) pa_nil))⟩))⟩) nd rfl (Or.inl rfl))
      (pss_cons (ps_for PassesOwn.never rfl (pi_range1 rfl hrg (pa_cons (pv 1) pa_nil)) (pg_name (i := 5) nd rfl (Or.inl rfl)) (pss_cons (ps_set (i := 7) nd rfl (Or.inl rfl) (pe_op op_mod (pe_ok MX hr1 (by rfl) passF (pa_cons (pe_ix ix_list (pv 0) (pv 5) (fun _ _ => rfl)) (pa_cons pe_int (pa_cons pe_int pa_nil)))) (pe_callB call_len_seq (by rfl) hlen PySem.boot_len (pa_cons (pv 4) pa_nil))))
      (pss_cons (ps_asg (pe_ok KB hr1 (by rfl) passF (pa_cons (pe_op op_add (pe_op op_fdiv (pe_ix ix_list (pv 0) (pv 5) (fun _ _ => rfl)) pe_int) (pv 5)) pa_nil)) (pg_sub (pe_ix ix_list (pv 4) (pv 7) (fun _ _ => rfl)) (pe_op op_mod (pv 5) (pe_callB call_len_seq (by rfl) hlen PySem.boot_len (pa_cons (pe_ix ix_list (pv 4) (pv 7) (fun _ _ => rfl)) pa_nil))) set_list))
      (pss_one (ps_if (pt_not (pt_val (pe_ok ON hr5 (by rfl) pass0 (pa_cons (pe_ix ix_list (pv 0) (pv 5) (fun _ _ => rfl)) (pa_cons (pe_ok KB hr1 (by rfl) passF (pa_cons (pe_op op_fdiv (pe_ix ix_list (pv 0) (pe_op op_mod (pe_op op_add (pv 5) pe_int) (pv 1)) (fun _ _ => rfl)) pe_int) pa_nil)) (pa_cons (pv 2) (pa_cons (pv 4) pa_nil))))))) (pss_one (ps_ret pe_bl)) pss_nil)))))
      (pss_one (ps_ret pe_bl))))))), ?_⟩
  refine ⟨_, rfl, a, _, rfl, .inl hS, ?_⟩
  rw [List.length_map]
  refine ⟨(by show 0 ≤ sizeLine; decide), fun sz nsz => ?_⟩
  have h : Hd H [(sz, .lst [])] _ := Hd.base.new nsz
  generalize upd H sz (.lst []) = H1 at h ⊢
  refine ⟨_, rfl, 5, rfl, a, _, rfl, h.sql hS, fun S nS => ⟨S, rfl, ⟨_, SqL.of upd_same⟩, ?_⟩⟩
  rw [cutV_take (by decide), show (5 : Int).toNat = 5 from rfl] at *
  have h : Hd H [(S, .lst ((ns.take 5).map V.int)), (sz, .lst [])] _ := h.new nS
  generalize upd H1 S (.lst ((ns.take 5).map V.int)) = H2 at h ⊢
  have h5 : (ns.take 5).length ≤ 5 := by rw [List.length_take]; omega
  refine for_list (K := K) (a := S) (xs := (ns.take 5).map V.int) (fun j σ J => ∃ u3, σ = [some (.ref a), some (.int ns.length), some (.ref sz), u3, none, none, none, none] ∧ Hd H [(S, .lst ((ns.take 5).map V.int)), (sz, .lst ((((ns.take 5).take j).map szF).map V.int))] J) ⟨none, rfl, h⟩ (fun j σ J _ ⟨_, _, h⟩ => h.lst 0 rfl) ?_ ?_
  · clear h
    rintro j x σ J hj ⟨u3, rfl, h⟩
    obtain ⟨hlt, rfl⟩ := map_int_at hj
    have fin : ∀ v : Int, v = szF ((ns.take 5).getD j 0) → Hd H [(S, .lst ((ns.take 5).map V.int)), (sz, .lst ((((ns.take 5).take (j + 1)).map szF).map V.int))] (upd J sz (.lst ((((ns.take 5).take j).map szF).map V.int ++ [.int v]))) := fun v e => by
      rw [take_snoc hlt, List.map_append, List.map_append, e]
      exact h.put 1 rfl
    have ll : (((ns.take 5).take j).map szF).length < sizeLine := by rw [List.length_map, List.length_take]; omega
    refine ⟨_, rfl, .inl ⟨rfl, _, h.lst 1 rfl⟩, _, rfl, _, _, rfl, rfl, (by show (0 : Int) < 3; decide), rfl, _, rfl, ?_⟩
    rw [intEq]
    refine ite2 (fun z => ?_) (fun z => ?_)
    · exact ⟨sz, _, _, rfl, rfl, h.get 1 rfl, by rw [List.length_map]; exact ll, _, rfl, fin 1 (by unfold szF; rw [if_pos (by simpa using z)])⟩
    · exact ⟨_, rfl, _, _, rfl, rfl, ⟨by decide, by decide⟩, _, _, rfl, rfl, (by show (0 : Int) < 9; decide), _, _, rfl, rfl, sz, _, _, rfl, rfl, h.get 1 rfl, by rw [List.length_map]; exact ll, _, rfl, fin _ (by unfold szF; rw [if_neg (by simpa using z)])⟩
  clear h
  rintro σ B ⟨u3, rfl, h⟩
  rw [List.length_map, List.take_length] at h
  have hz : ∀ v ∈ (ns.take 5).map szF, 1 ≤ v ∧ v ≤ 9 := fun v hv => by
    obtain ⟨c, _, rfl⟩ := List.mem_map.mp hv
    exact szF_in c
  have hzl : ((ns.take 5).map szF).length ≤ 5 := by rw [List.length_map]; exact h5
  have hz0 : 1 ≤ ns.length → 1 ≤ ((ns.take 5).map szF).length := fun y => by rw [List.length_map, List.length_take]; omega
  generalize (ns.take 5).map szF = zs at h hz hzl hz0
  -- the rows
  refine ⟨_, rfl, sz, _, rfl, .inl (h.lst 1 rfl), _, rfl, (by rw [List.length_map]; omega), (by rw [List.length_map]; omega), _, rfl, fun ra nra => ?_⟩
  rw [List.length_map, Int.toNat_natCast]
  have fra : B ra = none := nra
  have hesz := h.get 1 rfl
  have hSB := h.sql hS
  refine comp_range (lo := 0) (D := ra) (n := zs.length) (fun i σ J2 => ∃ (u : Option V) (ps : List Addr) (rs : List (List Int)), σ = [u, some (.ref sz)] ∧ RowsAt B J2 ra ps rs ∧ lensOf rs = zs.take i ∧ Same B J2) ?_ ?_ ?_
  · refine ⟨none, [], [], rfl, ⟨upd_same, rfl, (by intro i hi; cases hi), List.nodup_nil, (by intro z; cases z), fra⟩, rfl, same_upd (Same.refl _) fra⟩
  · rintro i σ J2 hi ⟨u, ps, rs, rfl, R, hls, sJ⟩
    have ez := sJ _ _ hesz
    have hv := hz _ (L2.getD_mem hi)
    have hrl : rs.length = i := by
      have := congrArg List.length hls
      rw [List.length_map, List.length_take] at this
      omega
    have ai : atI (zs.map V.int) (0 + (i : Int)) = some (.int (zs.getD i 0)) := at_int i hi (by omega)
    refine ⟨_, rfl, _, rfl, sz, _, _, _, rfl, rfl, SqL.of ez, ai, _, rfl, (by show -(2 ^ 62) ≤ zs.getD i 0; omega), (by show zs.getD i 0 < 2 ^ 62; omega), _, rfl, fun D nD => ?_⟩
    refine comp_range (lo := 0) (D := D) (n := (zs.getD i 0).toNat) (fun j σ J4 => ∃ (u : Option V) (cs : List Int), σ = [u, some (.int (0 + i)), some (.ref sz)] ∧ J4 D = some (.lst (List.map V.int cs)) ∧ cs.length = j ∧ (∀ v ∈ cs, Kin v) ∧ Same J2 J4) ?_ ?_ ?_
    · exact ⟨none, [], rfl, upd_same, rfl, (fun v hv => nomatch hv), same_upd (Same.refl _) nD⟩
    · rintro j σ J4 hj ⟨u, cs, rfl, e4, hcs, hk, s4⟩
      refine ⟨_, rfl, _, rfl, _, _, rfl, rfl, .inl ⟨by omega, by omega⟩, _, _, rfl, rfl, .inr ⟨by decide, by decide⟩, _, rfl, _, _, rfl, rfl, .inr ⟨by decide, by decide⟩, _, _, rfl, rfl, _, rfl, _, rfl, sz, _, _, _, rfl, rfl, SqL.of (s4 _ _ ez), ai, _, _, rfl, rfl, _, rfl, fun J5 s5 => ⟨_, s5 _ _ e4, ?_, some (.int (0 + j)), cs ++ [keptBy ((0 + (i : Int)) * (0 + (i : Int)) * 31 + (0 + (j : Int)) * 7 + zs.getD i 0)], rfl, by rw [upd_same, List.map_append]; rfl, ?_, ?_, same_upd (s4.trans s5) nD⟩⟩
      · rw [List.length_map]; omega
      · rw [List.length_append, hcs]; rfl
      · intro v hv
        rcases List.mem_append.mp hv with y | y
        · exact hk v y
        · rw [List.mem_singleton.mp y]; exact keptBy_in _
    rintro σ J4 ⟨u, cs, rfl, e4, hcs, hk, s4⟩
    refine ⟨_, s4 _ _ R.r, by rw [List.length_map, R.len]; omega, some (.int (0 + i)), ps ++ [D], rs ++ [cs], rfl, R.snoc s4 nD e4 (sJ.free nD) (by omega) (by omega) hk, ?_, same_upd (sJ.trans s4) fra⟩
    · rw [take_snoc hi, ← hls]
      show List.map _ (rs ++ [cs]) = _
      rw [List.map_append]
      congr 1
      show [(cs.length : Int)] = _
      rw [hcs]
      congr 1
      omega
  clear h
  rintro σ J2 ⟨u, ps, rs, rfl, R, hls, sJ⟩
  rw [List.take_length] at hls
  have hpl : ps.length = zs.length := by
    have := congrArg List.length hls
    rw [List.length_map] at this
    rw [R.len]; exact this
  refine ⟨_, rfl, _, rfl, by omega, by omega, ?_⟩
  rw [Int.toNat_natCast]
  refine for_range (n := ns.length) (fun i σ J => ∃ (u5 u7 : Option V) (rs : List (List Int)), σ = [some (.ref a), some (.int ns.length), some (.ref sz), u3, some (.ref ra), u5, none, u7] ∧ Same B J ∧ RowsAt B J ra ps rs ∧ lensOf rs = zs) ⟨none, none, rs, rfl, sJ, R, hls⟩ ?_ ?_
  · clear R sJ hls rs J2
    rintro i σ J hi ⟨u5, u7, rs, rfl, sJ, R, hls⟩
    have hSJ := sql_same hSB sJ
    have hps1 : 1 ≤ ps.length := by have := hz0 (by omega); omega
    have hrsl : rs.length = zs.length := by have := congrArg List.length hls; rw [List.length_map] at this; exact this
    refine ⟨_, rfl, _, rfl, a, _, _, _, rfl, rfl, hSJ, at_int i hi (by omega), _, _, _, rfl, by decide, by decide, by decide, _, rfl, ra, _, rfl, .inl (SqL.of R.r), _, _, rfl, rfl, (by rw [List.length_map]; omega), ?_⟩
    rw [List.length_map]
    obtain ⟨c0, hc0⟩ : ∃ c0, ns.getD i 0 = c0 := ⟨_, rfl⟩
    obtain ⟨ri, hri⟩ : ∃ ri : Int, ns.getD i 0 * 48271 % 2147483647 % (ps.length : Int) = ri := ⟨_, rfl⟩
    have hri0 : 0 ≤ ri := by rw [← hri]; exact Int.emod_nonneg _ (by omega)
    have hri1 : ri < ps.length := by rw [← hri]; exact Int.emod_lt_of_pos _ (by omega)
    show gName 7 (.int (ns.getD i 0 * 48271 % 2147483647 % (ps.length : Int))) _ _ _
    rw [hri]
    obtain ⟨r, rfl⟩ : ∃ r : Nat, ri = r := ⟨ri.toNat, by omega⟩
    have hrl : r < ps.length := by omega
    refine ⟨_, rfl, _, rfl, a, _, _, _, rfl, rfl, hSJ, at_int i hi (by omega), _, _, rfl, rfl, ⟨by decide, by decide⟩, _, rfl, _, _, rfl, rfl, _, rfl, fun J1 s1 => ?_⟩
    have R1 := R.same s1
    obtain ⟨er, fr, l1, l9, kr⟩ := R1.at_ r hrl
    have m0 := Int.emod_nonneg (0 + (i : Int)) (show (((rs.getD r []).length : Nat) : Int) ≠ 0 by omega)
    have m1 := Int.emod_lt_of_pos (0 + (i : Int)) (show (0 : Int) < (((rs.getD r []).length : Nat) : Int) by omega)
    refine ⟨_, rfl, _, rfl, ra, _, _, .ref (ps.getD r 0), rfl, rfl, SqL.of R1.r, ref_at r hrl rfl, _, rfl, _, rfl, _, rfl, ra, _, _, .ref (ps.getD r 0), rfl, rfl, SqL.of R1.r, ref_at r hrl rfl, ps.getD r 0, _, rfl, .inl (SqL.of er), _, _, rfl, rfl, (by rw [List.length_map]; omega),
      ps.getD r 0, (rs.getD r []).map V.int, _, ((0 + (i : Int)) % ((rs.getD r []).length : Int)).toNat, rfl, rfl, er, ?_, ?_⟩
    · rw [List.length_map]; exact ixN_nat m0 m1
    rw [set_ints]
    have R2 := R1.set (j := ((0 + (i : Int)) % ((rs.getD r []).length : Int)).toNat) hrl (keptBy_in (ns.getD i 0 / 11 + (0 + (i : Int))))
    have sJ2 : Same B (upd J1 (ps.getD r 0) (.lst (((rs.getD r []).set ((0 + (i : Int)) % ((rs.getD r []).length : Int)).toNat (keptBy (ns.getD i 0 / 11 + (0 + (i : Int))))).map V.int))) := same_upd (sJ.trans s1) fr
    have hls2 : lensOf (rs.set r ((rs.getD r []).set ((0 + (i : Int)) % ((rs.getD r []).length : Int)).toNat (keptBy (ns.getD i 0 / 11 + (0 + (i : Int)))))) = zs := by rw [lens_set (by rw [List.length_set])]; exact hls
    revert R2 sJ2 hls2
    generalize rs.set r ((rs.getD r []).set ((0 + (i : Int)) % ((rs.getD r []).length : Int)).toNat (keptBy (ns.getD i 0 / 11 + (0 + (i : Int))))) = rs2
    generalize upd J1 (ps.getD r 0) (.lst (((rs.getD r []).set ((0 + (i : Int)) % ((rs.getD r []).length : Int)).toNat (keptBy (ns.getD i 0 / 11 + (0 + (i : Int))))).map V.int)) = J3
    intro R2 sJ2 hls2
    have hS3 := sql_same hSB sJ2
    have ez2 := sJ2 _ _ hesz
    have e0 := Int.emod_nonneg (0 + (i : Int) + 1) (show ((ns.length : Nat) : Int) ≠ 0 by omega)
    have e1 := Int.emod_lt_of_pos (0 + (i : Int) + 1) (show (0 : Int) < ((ns.length : Nat) : Int) by omega)
    refine ⟨_, rfl, _, rfl, a, _, _, _, rfl, rfl, hS3, at_int i hi (by omega), _, rfl, _, rfl, _, _, rfl, rfl, _, rfl, _, _, rfl, rfl, (by show (0 : Int) < ns.length; omega), a, _, _, _, rfl, rfl, hS3, at_int ((0 + (i : Int) + 1) % (ns.length : Int)).toNat (by omega) (by show (0 + (i : Int) + 1) % (ns.length : Int) = _; omega), _, _, rfl, rfl, ⟨by decide, by decide⟩, _, rfl, fun J5 s5 => ?_⟩
    have R5 := R2.same s5
    refine ⟨_, rfl, _, rfl, sz, ra, _, _, ps, rs2, rfl, (by rw [hls2]; exact SqL.of (s5 _ _ ez2)), keptBy_in _, SqL.of R5.r, R5.len, by rw [← R5.len]; omega, by rw [← R5.len]; omega, fun j hj => ⟨(R5.at_ j hj).1, (R5.at_ j hj).2.2⟩, fun J6 s6 => ⟨true, rfl, iteF ?_⟩⟩
    exact ⟨_, _, rs2, rfl, (sJ2.trans s5).trans s6, R5.same s6, hls2⟩
  · rintro σ J ⟨u5, u7, rs, rfl, sJ, R, hls⟩
    exact k _
end
end K08

namespace K08
open PySem L2 FM
theorem all_mk {l : PySem.W.OpenLaw} {w : World} {K : PySem.W.Frag} {h : Heap} {mg : Str → Option Value} {fa f_start_of f_lies_in f_cell_at f_l_whole f_l_kept_by f_l_mix f_l_leaf_by f_l_by f_l_place_by f_l_fields f_l_due f_l_right f_l_spot_right f_l_one f_law f_Spot_init f_Number_init f_Number_worth f_Here_worth f_Cell_init f_Cell_worth f_Shifted_init f_Shifted_worth f_Local_init f_Local_worth C_Spot C_Number C_Here C_Cell C_Shifted C_Local : Addr} {FO : Addr} {od_start_of an_start_of od_lies_in an_lies_in od_cell_at an_cell_at od_l_whole an_l_whole od_l_kept_by an_l_kept_by od_l_mix an_l_mix od_l_leaf_by an_l_leaf_by od_l_by an_l_by od_l_place_by an_l_place_by od_l_fields an_l_fields od_l_due an_l_due od_l_right an_l_right od_l_spot_right an_l_spot_right od_l_one an_l_one od_law an_law od_Spot_init an_Spot_init od_Number_init an_Number_init od_Number_worth an_Number_worth od_Here_worth an_Here_worth od_Cell_init an_Cell_init od_Cell_worth an_Cell_worth od_Shifted_init an_Shifted_init od_Shifted_worth an_Shifted_worth od_Local_init an_Local_init od_Local_worth an_Local_worth : Option Addr} {sl_start_of sl_lies_in sl_cell_at sl_l_whole sl_l_kept_by sl_l_mix sl_l_leaf_by sl_l_by sl_l_place_by sl_l_fields sl_l_due sl_l_right sl_l_spot_right sl_l_one sl_law sl_Spot_init sl_Number_init sl_Number_worth sl_Here_worth sl_Cell_init sl_Cell_worth sl_Shifted_init sl_Shifted_worth sl_Local_init sl_Local_worth : Array (Option Value)} {oc_start_of kV_start_of dc_start_of pm_start_of cd_start_of ct_start_of oc_lies_in kV_lies_in dc_lies_in pm_lies_in cd_lies_in ct_lies_in oc_cell_at kV_cell_at dc_cell_at pm_cell_at cd_cell_at ct_cell_at oc_l_whole kV_l_whole dc_l_whole pm_l_whole cd_l_whole ct_l_whole oc_l_kept_by kV_l_kept_by dc_l_kept_by pm_l_kept_by cd_l_kept_by ct_l_kept_by oc_l_mix kV_l_mix dc_l_mix pm_l_mix cd_l_mix ct_l_mix oc_l_leaf_by kV_l_leaf_by dc_l_leaf_by pm_l_leaf_by cd_l_leaf_by ct_l_leaf_by oc_l_by kV_l_by dc_l_by pm_l_by cd_l_by ct_l_by oc_l_place_by kV_l_place_by dc_l_place_by pm_l_place_by cd_l_place_by ct_l_place_by oc_l_fields kV_l_fields dc_l_fields pm_l_fields cd_l_fields ct_l_fields oc_l_due kV_l_due dc_l_due pm_l_due cd_l_due ct_l_due oc_l_right kV_l_right dc_l_right pm_l_right cd_l_right ct_l_right oc_l_spot_right kV_l_spot_right dc_l_spot_right pm_l_spot_right cd_l_spot_right ct_l_spot_right oc_l_one kV_l_one dc_l_one pm_l_one cd_l_one ct_l_one oc_law kV_law dc_law pm_law cd_law ct_law oc_Spot_init kV_Spot_init dc_Spot_init pm_Spot_init cd_Spot_init ct_Spot_init oc_Number_init kV_Number_init dc_Number_init pm_Number_init cd_Number_init ct_Number_init oc_Number_worth kV_Number_worth dc_Number_worth pm_Number_worth cd_Number_worth ct_Number_worth oc_Here_worth kV_Here_worth dc_Here_worth pm_Here_worth cd_Here_worth ct_Here_worth oc_Cell_init kV_Cell_init dc_Cell_init pm_Cell_init cd_Cell_init ct_Cell_init oc_Cell_worth kV_Cell_worth dc_Cell_worth pm_Cell_worth cd_Cell_worth ct_Cell_worth oc_Shifted_init kV_Shifted_init dc_Shifted_init pm_Shifted_init cd_Shifted_init ct_Shifted_init oc_Shifted_worth kV_Shifted_worth dc_Shifted_worth pm_Shifted_worth cd_Shifted_worth ct_Shifted_worth oc_Local_init kV_Local_init dc_Local_init pm_Local_init cd_Local_init ct_Local_init oc_Local_worth kV_Local_worth dc_Local_worth pm_Local_worth cd_Local_worth ct_Local_worth : Value} (X : K.In h) (G : h.Ns mainGlobals mg) (hfa : mg "law" = some (.ref fa))
    (a_start_of : PySem.W.nsIn K mainGlobals "start_of" = some (some (.ref f_start_of))) (l_start_of : K.lookup f_start_of = some ⟨oc_start_of, od_start_of, .func (PySem.W.fnOf "start_of" "start_of" (defArgs s_start_of) (defBody s_start_of) (defScope s_start_of) .none kV_start_of dc_start_of pm_start_of an_start_of cd_start_of ct_start_of), sl_start_of⟩) (c_start_of : PySem.W.codeIn K cd_start_of "start_of" = true) (k_start_of : PySem.W.keepIn K (.ref f_start_of) = true)
    (a_lies_in : PySem.W.nsIn K mainGlobals "lies_in" = some (some (.ref f_lies_in))) (l_lies_in : K.lookup f_lies_in = some ⟨oc_lies_in, od_lies_in, .func (PySem.W.fnOf "lies_in" "lies_in" (defArgs s_lies_in) (defBody s_lies_in) (defScope s_lies_in) .none kV_lies_in dc_lies_in pm_lies_in an_lies_in cd_lies_in ct_lies_in), sl_lies_in⟩) (c_lies_in : PySem.W.codeIn K cd_lies_in "lies_in" = true) (k_lies_in : PySem.W.keepIn K (.ref f_lies_in) = true)
    (a_cell_at : PySem.W.nsIn K mainGlobals "cell_at" = some (some (.ref f_cell_at))) (l_cell_at : K.lookup f_cell_at = some ⟨oc_cell_at, od_cell_at, .func (PySem.W.fnOf "cell_at" "cell_at" (defArgs s_cell_at) (defBody s_cell_at) (defScope s_cell_at) .none kV_cell_at dc_cell_at pm_cell_at an_cell_at cd_cell_at ct_cell_at), sl_cell_at⟩) (c_cell_at : PySem.W.codeIn K cd_cell_at "cell_at" = true) (k_cell_at : PySem.W.keepIn K (.ref f_cell_at) = true)
    (a_l_whole : PySem.W.nsIn K mainGlobals "_law_whole" = some (some (.ref f_l_whole))) (l_l_whole : K.lookup f_l_whole = some ⟨oc_l_whole, od_l_whole, .func (PySem.W.fnOf "_law_whole" "_law_whole" (defArgs s_l_whole) (defBody s_l_whole) (defScope s_l_whole) .none kV_l_whole dc_l_whole pm_l_whole an_l_whole cd_l_whole ct_l_whole), sl_l_whole⟩) (c_l_whole : PySem.W.codeIn K cd_l_whole "_law_whole" = true) (k_l_whole : PySem.W.keepIn K (.ref f_l_whole) = true)
    (a_l_kept_by : PySem.W.nsIn K mainGlobals "_law_kept_by" = some (some (.ref f_l_kept_by))) (l_l_kept_by : K.lookup f_l_kept_by = some ⟨oc_l_kept_by, od_l_kept_by, .func (PySem.W.fnOf "_law_kept_by" "_law_kept_by" (defArgs s_l_kept_by) (defBody s_l_kept_by) (defScope s_l_kept_by) .none kV_l_kept_by dc_l_kept_by pm_l_kept_by an_l_kept_by cd_l_kept_by ct_l_kept_by), sl_l_kept_by⟩) (c_l_kept_by : PySem.W.codeIn K cd_l_kept_by "_law_kept_by" = true) (k_l_kept_by : PySem.W.keepIn K (.ref f_l_kept_by) = true)
    (a_l_mix : PySem.W.nsIn K mainGlobals "_law_mix" = some (some (.ref f_l_mix))) (l_l_mix : K.lookup f_l_mix = some ⟨oc_l_mix, od_l_mix, .func (PySem.W.fnOf "_law_mix" "_law_mix" (defArgs s_l_mix) (defBody s_l_mix) (defScope s_l_mix) .none kV_l_mix dc_l_mix pm_l_mix an_l_mix cd_l_mix ct_l_mix), sl_l_mix⟩) (c_l_mix : PySem.W.codeIn K cd_l_mix "_law_mix" = true) (k_l_mix : PySem.W.keepIn K (.ref f_l_mix) = true)
    (a_l_leaf_by : PySem.W.nsIn K mainGlobals "_law_leaf_by" = some (some (.ref f_l_leaf_by))) (l_l_leaf_by : K.lookup f_l_leaf_by = some ⟨oc_l_leaf_by, od_l_leaf_by, .func (PySem.W.fnOf "_law_leaf_by" "_law_leaf_by" (defArgs s_l_leaf_by) (defBody s_l_leaf_by) (defScope s_l_leaf_by) .none kV_l_leaf_by dc_l_leaf_by pm_l_leaf_by an_l_leaf_by cd_l_leaf_by ct_l_leaf_by), sl_l_leaf_by⟩) (c_l_leaf_by : PySem.W.codeIn K cd_l_leaf_by "_law_leaf_by" = true) (k_l_leaf_by : PySem.W.keepIn K (.ref f_l_leaf_by) = true)
    (a_l_by : PySem.W.nsIn K mainGlobals "_law_by" = some (some (.ref f_l_by))) (l_l_by : K.lookup f_l_by = some ⟨oc_l_by, od_l_by, .func (PySem.W.fnOf "_law_by" "_law_by" (defArgs s_l_by) (defBody s_l_by) (defScope s_l_by) .none kV_l_by dc_l_by pm_l_by an_l_by cd_l_by ct_l_by), sl_l_by⟩) (c_l_by : PySem.W.codeIn K cd_l_by "_law_by" = true) (k_l_by : PySem.W.keepIn K (.ref f_l_by) = true)
    (a_l_place_by : PySem.W.nsIn K mainGlobals "_law_place_by" = some (some (.ref f_l_place_by))) (l_l_place_by : K.lookup f_l_place_by = some ⟨oc_l_place_by, od_l_place_by, .func (PySem.W.fnOf "_law_place_by" "_law_place_by" (defArgs s_l_place_by) (defBody s_l_place_by) (defScope s_l_place_by) .none kV_l_place_by dc_l_place_by pm_l_place_by an_l_place_by cd_l_place_by ct_l_place_by), sl_l_place_by⟩) (c_l_place_by : PySem.W.codeIn K cd_l_place_by "_law_place_by" = true) (k_l_place_by : PySem.W.keepIn K (.ref f_l_place_by) = true)
    (a_l_fields : PySem.W.nsIn K mainGlobals "_law_fields" = some (some (.ref f_l_fields))) (l_l_fields : K.lookup f_l_fields = some ⟨oc_l_fields, od_l_fields, .func (PySem.W.fnOf "_law_fields" "_law_fields" (defArgs s_l_fields) (defBody s_l_fields) (defScope s_l_fields) .none kV_l_fields dc_l_fields pm_l_fields an_l_fields cd_l_fields ct_l_fields), sl_l_fields⟩) (c_l_fields : PySem.W.codeIn K cd_l_fields "_law_fields" = true) (k_l_fields : PySem.W.keepIn K (.ref f_l_fields) = true)
    (a_l_due : PySem.W.nsIn K mainGlobals "_law_due" = some (some (.ref f_l_due))) (l_l_due : K.lookup f_l_due = some ⟨oc_l_due, od_l_due, .func (PySem.W.fnOf "_law_due" "_law_due" (defArgs s_l_due) (defBody s_l_due) (defScope s_l_due) .none kV_l_due dc_l_due pm_l_due an_l_due cd_l_due ct_l_due), sl_l_due⟩) (c_l_due : PySem.W.codeIn K cd_l_due "_law_due" = true) (k_l_due : PySem.W.keepIn K (.ref f_l_due) = true)
    (a_l_right : PySem.W.nsIn K mainGlobals "_law_right" = some (some (.ref f_l_right))) (l_l_right : K.lookup f_l_right = some ⟨oc_l_right, od_l_right, .func (PySem.W.fnOf "_law_right" "_law_right" (defArgs s_l_right) (defBody s_l_right) (defScope s_l_right) .none kV_l_right dc_l_right pm_l_right an_l_right cd_l_right ct_l_right), sl_l_right⟩) (c_l_right : PySem.W.codeIn K cd_l_right "_law_right" = true) (k_l_right : PySem.W.keepIn K (.ref f_l_right) = true)
    (a_l_spot_right : PySem.W.nsIn K mainGlobals "_law_spot_right" = some (some (.ref f_l_spot_right))) (l_l_spot_right : K.lookup f_l_spot_right = some ⟨oc_l_spot_right, od_l_spot_right, .func (PySem.W.fnOf "_law_spot_right" "_law_spot_right" (defArgs s_l_spot_right) (defBody s_l_spot_right) (defScope s_l_spot_right) .none kV_l_spot_right dc_l_spot_right pm_l_spot_right an_l_spot_right cd_l_spot_right ct_l_spot_right), sl_l_spot_right⟩) (c_l_spot_right : PySem.W.codeIn K cd_l_spot_right "_law_spot_right" = true) (k_l_spot_right : PySem.W.keepIn K (.ref f_l_spot_right) = true)
    (a_l_one : PySem.W.nsIn K mainGlobals "_law_one" = some (some (.ref f_l_one))) (l_l_one : K.lookup f_l_one = some ⟨oc_l_one, od_l_one, .func (PySem.W.fnOf "_law_one" "_law_one" (defArgs s_l_one) (defBody s_l_one) (defScope s_l_one) .none kV_l_one dc_l_one pm_l_one an_l_one cd_l_one ct_l_one), sl_l_one⟩) (c_l_one : PySem.W.codeIn K cd_l_one "_law_one" = true) (k_l_one : PySem.W.keepIn K (.ref f_l_one) = true)
    (a_law : PySem.W.nsIn K mainGlobals "law" = some (some (.ref f_law))) (l_law : K.lookup f_law = some ⟨oc_law, od_law, .func (PySem.W.fnOf "law" "law" (defArgs s_law) (defBody s_law) (defScope s_law) .none kV_law dc_law pm_law an_law cd_law ct_law), sl_law⟩) (c_law : PySem.W.codeIn K cd_law "law" = true) (k_law : PySem.W.keepIn K (.ref f_law) = true)
    (a_C_Spot : PySem.W.nsIn K mainGlobals "Spot" = some (some (.ref C_Spot))) (c1_C_Spot : PySem.W.plainGet K C_Spot Str.empty = true) (c2_C_Spot : PySem.W.hasDictIn K C_Spot = true) (c3_C_Spot : PySem.W.plainOver K C_Spot = true) (c4_C_Spot : PySem.W.findIn K (.ref C_Spot) "__setattr__" = some (some (.builtin "object.__setattr__")))
    (n_C_Spot_lengths : PySem.W.findIn K (.ref C_Spot) "lengths" = some none)
    (n_C_Spot_functions : PySem.W.findIn K (.ref C_Spot) "functions" = some none)
    (n_C_Spot_cells : PySem.W.findIn K (.ref C_Spot) "cells" = some none)
    (n_C_Spot_place : PySem.W.findIn K (.ref C_Spot) "place" = some none)
    (n_C_Spot_own : PySem.W.findIn K (.ref C_Spot) "own" = some none)
    (mk_C_Spot : PySem.W.makesIn K C_Spot = true) (kC_C_Spot : PySem.W.keepIn K (.ref C_Spot) = true)
    (at_Spot_init : PySem.W.findIn K (.ref C_Spot) "__init__" = some (some (.ref f_Spot_init))) (fn_Spot_init : PySem.W.isFn K (.ref f_Spot_init) = true) (l_Spot_init : K.lookup f_Spot_init = some ⟨oc_Spot_init, od_Spot_init, .func (PySem.W.fnOf "__init__" "Spot.__init__" (defArgs s_Spot_init) (defBody s_Spot_init) (defScope s_Spot_init) .none kV_Spot_init dc_Spot_init pm_Spot_init an_Spot_init cd_Spot_init ct_Spot_init), sl_Spot_init⟩) (c_Spot_init : PySem.W.codeIn K cd_Spot_init "Spot.__init__" = true) (k_Spot_init : PySem.W.keepIn K (.ref f_Spot_init) = true)
    (a_C_Number : PySem.W.nsIn K mainGlobals "Number" = some (some (.ref C_Number))) (c1_C_Number : PySem.W.plainGet K C_Number Str.empty = true) (c2_C_Number : PySem.W.hasDictIn K C_Number = true) (c3_C_Number : PySem.W.plainOver K C_Number = true) (c4_C_Number : PySem.W.findIn K (.ref C_Number) "__setattr__" = some (some (.builtin "object.__setattr__")))
    (n_C_Number_number : PySem.W.findIn K (.ref C_Number) "number" = some none)
    (mk_C_Number : PySem.W.makesIn K C_Number = true) (kC_C_Number : PySem.W.keepIn K (.ref C_Number) = true)
    (at_Number_init : PySem.W.findIn K (.ref C_Number) "__init__" = some (some (.ref f_Number_init))) (fn_Number_init : PySem.W.isFn K (.ref f_Number_init) = true) (l_Number_init : K.lookup f_Number_init = some ⟨oc_Number_init, od_Number_init, .func (PySem.W.fnOf "__init__" "Number.__init__" (defArgs s_Number_init) (defBody s_Number_init) (defScope s_Number_init) .none kV_Number_init dc_Number_init pm_Number_init an_Number_init cd_Number_init ct_Number_init), sl_Number_init⟩) (c_Number_init : PySem.W.codeIn K cd_Number_init "Number.__init__" = true) (k_Number_init : PySem.W.keepIn K (.ref f_Number_init) = true)
    (at_Number_worth : PySem.W.findIn K (.ref C_Number) "worth" = some (some (.ref f_Number_worth))) (fn_Number_worth : PySem.W.isFn K (.ref f_Number_worth) = true) (l_Number_worth : K.lookup f_Number_worth = some ⟨oc_Number_worth, od_Number_worth, .func (PySem.W.fnOf "worth" "Number.worth" (defArgs s_Number_worth) (defBody s_Number_worth) (defScope s_Number_worth) .none kV_Number_worth dc_Number_worth pm_Number_worth an_Number_worth cd_Number_worth ct_Number_worth), sl_Number_worth⟩) (c_Number_worth : PySem.W.codeIn K cd_Number_worth "Number.worth" = true) (k_Number_worth : PySem.W.keepIn K (.ref f_Number_worth) = true)
    (a_C_Here : PySem.W.nsIn K mainGlobals "Here" = some (some (.ref C_Here))) (c1_C_Here : PySem.W.plainGet K C_Here Str.empty = true) (c2_C_Here : PySem.W.hasDictIn K C_Here = true) (c3_C_Here : PySem.W.plainOver K C_Here = true) (c4_C_Here : PySem.W.findIn K (.ref C_Here) "__setattr__" = some (some (.builtin "object.__setattr__")))
    (mk_C_Here : PySem.W.makesIn K C_Here = true) (kC_C_Here : PySem.W.keepIn K (.ref C_Here) = true) (in_C_Here : PySem.W.findIn K (.ref C_Here) "__init__" = some (some (.builtin "object.__init__")))
    (at_Here_worth : PySem.W.findIn K (.ref C_Here) "worth" = some (some (.ref f_Here_worth))) (fn_Here_worth : PySem.W.isFn K (.ref f_Here_worth) = true) (l_Here_worth : K.lookup f_Here_worth = some ⟨oc_Here_worth, od_Here_worth, .func (PySem.W.fnOf "worth" "Here.worth" (defArgs s_Here_worth) (defBody s_Here_worth) (defScope s_Here_worth) .none kV_Here_worth dc_Here_worth pm_Here_worth an_Here_worth cd_Here_worth ct_Here_worth), sl_Here_worth⟩) (c_Here_worth : PySem.W.codeIn K cd_Here_worth "Here.worth" = true) (k_Here_worth : PySem.W.keepIn K (.ref f_Here_worth) = true)
    (a_C_Cell : PySem.W.nsIn K mainGlobals "Cell" = some (some (.ref C_Cell))) (c1_C_Cell : PySem.W.plainGet K C_Cell Str.empty = true) (c2_C_Cell : PySem.W.hasDictIn K C_Cell = true) (c3_C_Cell : PySem.W.plainOver K C_Cell = true) (c4_C_Cell : PySem.W.findIn K (.ref C_Cell) "__setattr__" = some (some (.builtin "object.__setattr__")))
    (n_C_Cell_row : PySem.W.findIn K (.ref C_Cell) "row" = some none)
    (mk_C_Cell : PySem.W.makesIn K C_Cell = true) (kC_C_Cell : PySem.W.keepIn K (.ref C_Cell) = true)
    (at_Cell_init : PySem.W.findIn K (.ref C_Cell) "__init__" = some (some (.ref f_Cell_init))) (fn_Cell_init : PySem.W.isFn K (.ref f_Cell_init) = true) (l_Cell_init : K.lookup f_Cell_init = some ⟨oc_Cell_init, od_Cell_init, .func (PySem.W.fnOf "__init__" "Cell.__init__" (defArgs s_Cell_init) (defBody s_Cell_init) (defScope s_Cell_init) .none kV_Cell_init dc_Cell_init pm_Cell_init an_Cell_init cd_Cell_init ct_Cell_init), sl_Cell_init⟩) (c_Cell_init : PySem.W.codeIn K cd_Cell_init "Cell.__init__" = true) (k_Cell_init : PySem.W.keepIn K (.ref f_Cell_init) = true)
    (at_Cell_worth : PySem.W.findIn K (.ref C_Cell) "worth" = some (some (.ref f_Cell_worth))) (fn_Cell_worth : PySem.W.isFn K (.ref f_Cell_worth) = true) (l_Cell_worth : K.lookup f_Cell_worth = some ⟨oc_Cell_worth, od_Cell_worth, .func (PySem.W.fnOf "worth" "Cell.worth" (defArgs s_Cell_worth) (defBody s_Cell_worth) (defScope s_Cell_worth) .none kV_Cell_worth dc_Cell_worth pm_Cell_worth an_Cell_worth cd_Cell_worth ct_Cell_worth), sl_Cell_worth⟩) (c_Cell_worth : PySem.W.codeIn K cd_Cell_worth "Cell.worth" = true) (k_Cell_worth : PySem.W.keepIn K (.ref f_Cell_worth) = true)
    (a_C_Shifted : PySem.W.nsIn K mainGlobals "Shifted" = some (some (.ref C_Shifted))) (c1_C_Shifted : PySem.W.plainGet K C_Shifted Str.empty = true) (c2_C_Shifted : PySem.W.hasDictIn K C_Shifted = true) (c3_C_Shifted : PySem.W.plainOver K C_Shifted = true) (c4_C_Shifted : PySem.W.findIn K (.ref C_Shifted) "__setattr__" = some (some (.builtin "object.__setattr__")))
    (n_C_Shifted_row : PySem.W.findIn K (.ref C_Shifted) "row" = some none)
    (n_C_Shifted_by : PySem.W.findIn K (.ref C_Shifted) "by" = some none)
    (n_C_Shifted_other : PySem.W.findIn K (.ref C_Shifted) "other" = some none)
    (mk_C_Shifted : PySem.W.makesIn K C_Shifted = true) (kC_C_Shifted : PySem.W.keepIn K (.ref C_Shifted) = true)
    (at_Shifted_init : PySem.W.findIn K (.ref C_Shifted) "__init__" = some (some (.ref f_Shifted_init))) (fn_Shifted_init : PySem.W.isFn K (.ref f_Shifted_init) = true) (l_Shifted_init : K.lookup f_Shifted_init = some ⟨oc_Shifted_init, od_Shifted_init, .func (PySem.W.fnOf "__init__" "Shifted.__init__" (defArgs s_Shifted_init) (defBody s_Shifted_init) (defScope s_Shifted_init) .none kV_Shifted_init dc_Shifted_init pm_Shifted_init an_Shifted_init cd_Shifted_init ct_Shifted_init), sl_Shifted_init⟩) (c_Shifted_init : PySem.W.codeIn K cd_Shifted_init "Shifted.__init__" = true) (k_Shifted_init : PySem.W.keepIn K (.ref f_Shifted_init) = true)
    (at_Shifted_worth : PySem.W.findIn K (.ref C_Shifted) "worth" = some (some (.ref f_Shifted_worth))) (fn_Shifted_worth : PySem.W.isFn K (.ref f_Shifted_worth) = true) (l_Shifted_worth : K.lookup f_Shifted_worth = some ⟨oc_Shifted_worth, od_Shifted_worth, .func (PySem.W.fnOf "worth" "Shifted.worth" (defArgs s_Shifted_worth) (defBody s_Shifted_worth) (defScope s_Shifted_worth) .none kV_Shifted_worth dc_Shifted_worth pm_Shifted_worth an_Shifted_worth cd_Shifted_worth ct_Shifted_worth), sl_Shifted_worth⟩) (c_Shifted_worth : PySem.W.codeIn K cd_Shifted_worth "Shifted.worth" = true) (k_Shifted_worth : PySem.W.keepIn K (.ref f_Shifted_worth) = true)
    (a_C_Local : PySem.W.nsIn K mainGlobals "Local" = some (some (.ref C_Local))) (c1_C_Local : PySem.W.plainGet K C_Local Str.empty = true) (c2_C_Local : PySem.W.hasDictIn K C_Local = true) (c3_C_Local : PySem.W.plainOver K C_Local = true) (c4_C_Local : PySem.W.findIn K (.ref C_Local) "__setattr__" = some (some (.builtin "object.__setattr__")))
    (n_C_Local_at : PySem.W.findIn K (.ref C_Local) "at" = some none)
    (mk_C_Local : PySem.W.makesIn K C_Local = true) (kC_C_Local : PySem.W.keepIn K (.ref C_Local) = true)
    (at_Local_init : PySem.W.findIn K (.ref C_Local) "__init__" = some (some (.ref f_Local_init))) (fn_Local_init : PySem.W.isFn K (.ref f_Local_init) = true) (l_Local_init : K.lookup f_Local_init = some ⟨oc_Local_init, od_Local_init, .func (PySem.W.fnOf "__init__" "Local.__init__" (defArgs s_Local_init) (defBody s_Local_init) (defScope s_Local_init) .none kV_Local_init dc_Local_init pm_Local_init an_Local_init cd_Local_init ct_Local_init), sl_Local_init⟩) (c_Local_init : PySem.W.codeIn K cd_Local_init "Local.__init__" = true) (k_Local_init : PySem.W.keepIn K (.ref f_Local_init) = true)
    (at_Local_worth : PySem.W.findIn K (.ref C_Local) "worth" = some (some (.ref f_Local_worth))) (fn_Local_worth : PySem.W.isFn K (.ref f_Local_worth) = true) (l_Local_worth : K.lookup f_Local_worth = some ⟨oc_Local_worth, od_Local_worth, .func (PySem.W.fnOf "worth" "Local.worth" (defArgs s_Local_worth) (defBody s_Local_worth) (defScope s_Local_worth) .none kV_Local_worth dc_Local_worth pm_Local_worth an_Local_worth cd_Local_worth ct_Local_worth), sl_Local_worth⟩) (c_Local_worth : PySem.W.codeIn K cd_Local_worth "Local.worth" = true) (k_Local_worth : PySem.W.keepIn K (.ref f_Local_worth) = true)
    (b_FO : PySem.W.nsIn K mainGlobals "Form" = some (some (.ref FO)))
    (k5 : PySem.W.kitOne K (.type "int") (.type "int") = some true)
    (k6 : PySem.W.kitOne K (.type "int") (.type "bool") = some false)
    (i1_Number : PySem.W.findIn K (.ref C_Number) "__class__" = some (some (.builtin "object.__class__")))
    (i2_Number : PySem.W.specialIn K (.builtin "object.__class__") "__get__" = some (some (.builtin "getset_descriptor.__get__")))
    (i3_Number : PySem.W.takesIn K (.builtin "object.__class__") = some true)
    (i4_Number : PySem.W.mroIn K C_Number (.type "object") = some true)
    (kcf_Number : PySem.W.kitOne K (.ref C_Number) (.ref FO) = some true)
    (i1_Here : PySem.W.findIn K (.ref C_Here) "__class__" = some (some (.builtin "object.__class__")))
    (i2_Here : PySem.W.specialIn K (.builtin "object.__class__") "__get__" = some (some (.builtin "getset_descriptor.__get__")))
    (i3_Here : PySem.W.takesIn K (.builtin "object.__class__") = some true)
    (i4_Here : PySem.W.mroIn K C_Here (.type "object") = some true)
    (kcf_Here : PySem.W.kitOne K (.ref C_Here) (.ref FO) = some true)
    (i1_Cell : PySem.W.findIn K (.ref C_Cell) "__class__" = some (some (.builtin "object.__class__")))
    (i2_Cell : PySem.W.specialIn K (.builtin "object.__class__") "__get__" = some (some (.builtin "getset_descriptor.__get__")))
    (i3_Cell : PySem.W.takesIn K (.builtin "object.__class__") = some true)
    (i4_Cell : PySem.W.mroIn K C_Cell (.type "object") = some true)
    (kcf_Cell : PySem.W.kitOne K (.ref C_Cell) (.ref FO) = some true)
    (i1_Shifted : PySem.W.findIn K (.ref C_Shifted) "__class__" = some (some (.builtin "object.__class__")))
    (i2_Shifted : PySem.W.specialIn K (.builtin "object.__class__") "__get__" = some (some (.builtin "getset_descriptor.__get__")))
    (i3_Shifted : PySem.W.takesIn K (.builtin "object.__class__") = some true)
    (i4_Shifted : PySem.W.mroIn K C_Shifted (.type "object") = some true)
    (kcf_Shifted : PySem.W.kitOne K (.ref C_Shifted) (.ref FO) = some true)
    (i1_Local : PySem.W.findIn K (.ref C_Local) "__class__" = some (some (.builtin "object.__class__")))
    (i2_Local : PySem.W.specialIn K (.builtin "object.__class__") "__get__" = some (some (.builtin "getset_descriptor.__get__")))
    (i3_Local : PySem.W.takesIn K (.builtin "object.__class__") = some true)
    (i4_Local : PySem.W.mroIn K C_Local (.type "object") = some true)
    (kcf_Local : PySem.W.kitOne K (.ref C_Local) (.ref FO) = some true)
    (z_isinstance : PySem.W.nsIn K mainGlobals "isinstance" = some none)
    (z_int : PySem.W.nsIn K mainGlobals "int" = some none)
    (z_bool : PySem.W.nsIn K mainGlobals "bool" = some none)
    (z_len : PySem.W.nsIn K mainGlobals "len" = some none)
    (z_range : PySem.W.nsIn K mainGlobals "range" = some none)
    (z_sum : PySem.W.nsIn K mainGlobals "sum" = some none)
    (z_list : PySem.W.nsIn K mainGlobals "list" = some none)
    : ∃ fd : FuncData, (∀ (s : Shared) (v : Value), BindsTo s fd ⟨[v], []⟩ [("_law_script", v)]) ∧ ∀ base : Heap, K.In base → base.Ns mainGlobals mg → FnOk l.prog w K mg base CX0 6 fa fd ["_law_script"] (spLaw K) := by
  have e := hfa.symm.trans (PySem.W.mg_of X G a_law)
  cases e
  have d_start_of : DefIn K mg "start_of" s_start_of ["lengths", "row"] := defIn_mk X G a_start_of l_start_of c_start_of k_start_of fun _ _ _ _ _ _ us hl => match us, hl with | [_, _], _ => rfl
  have d_lies_in : DefIn K mg "lies_in" s_lies_in ["spot", "row", "place"] := defIn_mk X G a_lies_in l_lies_in c_lies_in k_lies_in fun _ _ _ _ _ _ us hl => match us, hl with | [_, _, _], _ => rfl
  have d_cell_at : DefIn K mg "cell_at" s_cell_at ["spot", "row", "place"] := defIn_mk X G a_cell_at l_cell_at c_cell_at k_cell_at fun _ _ _ _ _ _ us hl => match us, hl with | [_, _, _], _ => rfl
  have d_l_whole : DefIn K mg "_law_whole" s_l_whole ["_law_found"] := defIn_mk X G a_l_whole l_l_whole c_l_whole k_l_whole fun _ _ _ _ _ _ us hl => match us, hl with | [_], _ => rfl
  have d_l_kept_by : DefIn K mg "_law_kept_by" s_l_kept_by ["_law_cell"] := defIn_mk X G a_l_kept_by l_l_kept_by c_l_kept_by k_l_kept_by fun _ _ _ _ _ _ us hl => match us, hl with | [_], _ => rfl
  have d_l_mix : DefIn K mg "_law_mix" s_l_mix ["_law_cell", "_law_factor", "_law_prime"] := defIn_mk X G a_l_mix l_l_mix c_l_mix k_l_mix fun _ _ _ _ _ _ us hl => match us, hl with | [_, _, _], _ => rfl
  have d_l_leaf_by : DefIn K mg "_law_leaf_by" s_l_leaf_by ["_law_cell", "_law_row", "_law_number"] := defIn_mk X G a_l_leaf_by l_l_leaf_by c_l_leaf_by k_l_leaf_by fun _ _ _ _ _ _ us hl => match us, hl with | [_, _, _], _ => rfl
  have d_l_by : DefIn K mg "_law_by" s_l_by ["_law_cell"] := defIn_mk X G a_l_by l_l_by c_l_by k_l_by fun _ _ _ _ _ _ us hl => match us, hl with | [_], _ => rfl
  have d_l_place_by : DefIn K mg "_law_place_by" s_l_place_by ["_law_cell", "_law_how", "_law_length"] := defIn_mk X G a_l_place_by l_l_place_by c_l_place_by k_l_place_by fun _ _ _ _ _ _ us hl => match us, hl with | [_, _, _], _ => rfl
  have d_l_fields : DefIn K mg "_law_fields" s_l_fields ["_law_leaf", "_law_how", "_law_row", "_law_by_here", "_law_number", "_law_at"] := defIn_mk X G a_l_fields l_l_fields c_l_fields k_l_fields fun _ _ _ _ _ _ us hl => match us, hl with | [_, _, _, _, _, _], _ => rfl
  have d_l_due : DefIn K mg "_law_due" s_l_due ["_law_how", "_law_part", "_law_place", "_law_by_here", "_law_number", "_law_given"] := defIn_mk X G a_l_due l_l_due c_l_due k_l_due fun _ _ _ _ _ _ us hl => match us, hl with | [_, _, _, _, _, _], _ => rfl
  have d_l_right : DefIn K mg "_law_right" s_l_right ["_law_leaf", "_law_spot", "_law_due_here"] := defIn_mk X G a_l_right l_l_right c_l_right k_l_right fun _ _ _ _ _ _ us hl => match us, hl with | [_, _, _], _ => rfl
  have d_l_spot_right : DefIn K mg "_law_spot_right" s_l_spot_right ["_law_spot", "_law_sizes", "_law_cells", "_law_place", "_law_own"] := defIn_mk X G a_l_spot_right l_l_spot_right c_l_spot_right k_l_spot_right fun _ _ _ _ _ _ us hl => match us, hl with | [_, _, _, _, _], _ => rfl
  have d_l_one : DefIn K mg "_law_one" s_l_one ["_law_cell", "_law_number", "_law_sizes", "_law_rows"] := defIn_mk X G a_l_one l_l_one c_l_one k_l_one fun _ _ _ _ _ _ us hl => match us, hl with | [_, _, _, _], _ => rfl
  have d_Spot_init : InitIn K C_Spot "Spot.__init__" s_Spot_init ["self", "lengths", "functions", "cells", "place", "own"] := ⟨f_Spot_init, _, ⟨mk_C_Spot, at_Spot_init, fn_Spot_init, kC_C_Spot⟩, fun_mk l_Spot_init c_Spot_init k_Spot_init, (fun_mk l_Spot_init c_Spot_init k_Spot_init).binds fun _ _ _ _ _ _ us hl => match us, hl with | [_, _, _, _, _, _], _ => rfl⟩
  have d_Number_init : InitIn K C_Number "Number.__init__" s_Number_init ["self", "number"] := ⟨f_Number_init, _, ⟨mk_C_Number, at_Number_init, fn_Number_init, kC_C_Number⟩, fun_mk l_Number_init c_Number_init k_Number_init, (fun_mk l_Number_init c_Number_init k_Number_init).binds fun _ _ _ _ _ _ us hl => match us, hl with | [_, _], _ => rfl⟩
  have d_Number_worth : MethIn K C_Number "worth" "Number.worth" s_Number_worth ["self", "spot"] := ⟨f_Number_worth, _, ⟨at_Number_worth, fn_Number_worth, k_Number_worth⟩, fun_mk l_Number_worth c_Number_worth k_Number_worth, (fun_mk l_Number_worth c_Number_worth k_Number_worth).binds fun _ _ _ _ _ _ us hl => match us, hl with | [_, _], _ => rfl⟩
  have d_Here_worth : MethIn K C_Here "worth" "Here.worth" s_Here_worth ["self", "spot"] := ⟨f_Here_worth, _, ⟨at_Here_worth, fn_Here_worth, k_Here_worth⟩, fun_mk l_Here_worth c_Here_worth k_Here_worth, (fun_mk l_Here_worth c_Here_worth k_Here_worth).binds fun _ _ _ _ _ _ us hl => match us, hl with | [_, _], _ => rfl⟩
  have d_Cell_init : InitIn K C_Cell "Cell.__init__" s_Cell_init ["self", "row"] := ⟨f_Cell_init, _, ⟨mk_C_Cell, at_Cell_init, fn_Cell_init, kC_C_Cell⟩, fun_mk l_Cell_init c_Cell_init k_Cell_init, (fun_mk l_Cell_init c_Cell_init k_Cell_init).binds fun _ _ _ _ _ _ us hl => match us, hl with | [_, _], _ => rfl⟩
  have d_Cell_worth : MethIn K C_Cell "worth" "Cell.worth" s_Cell_worth ["self", "spot"] := ⟨f_Cell_worth, _, ⟨at_Cell_worth, fn_Cell_worth, k_Cell_worth⟩, fun_mk l_Cell_worth c_Cell_worth k_Cell_worth, (fun_mk l_Cell_worth c_Cell_worth k_Cell_worth).binds fun _ _ _ _ _ _ us hl => match us, hl with | [_, _], _ => rfl⟩
  have d_Shifted_init : InitIn K C_Shifted "Shifted.__init__" s_Shifted_init ["self", "row", "by", "other"] := ⟨f_Shifted_init, _, ⟨mk_C_Shifted, at_Shifted_init, fn_Shifted_init, kC_C_Shifted⟩, fun_mk l_Shifted_init c_Shifted_init k_Shifted_init, (fun_mk l_Shifted_init c_Shifted_init k_Shifted_init).binds fun _ _ _ _ _ _ us hl => match us, hl with | [_, _, _, _], _ => rfl⟩
  have d_Shifted_worth : MethIn K C_Shifted "worth" "Shifted.worth" s_Shifted_worth ["self", "spot"] := ⟨f_Shifted_worth, _, ⟨at_Shifted_worth, fn_Shifted_worth, k_Shifted_worth⟩, fun_mk l_Shifted_worth c_Shifted_worth k_Shifted_worth, (fun_mk l_Shifted_worth c_Shifted_worth k_Shifted_worth).binds fun _ _ _ _ _ _ us hl => match us, hl with | [_, _], _ => rfl⟩
  have d_Local_init : InitIn K C_Local "Local.__init__" s_Local_init ["self", "at"] := ⟨f_Local_init, _, ⟨mk_C_Local, at_Local_init, fn_Local_init, kC_C_Local⟩, fun_mk l_Local_init c_Local_init k_Local_init, (fun_mk l_Local_init c_Local_init k_Local_init).binds fun _ _ _ _ _ _ us hl => match us, hl with | [_, _], _ => rfl⟩
  have d_Local_worth : MethIn K C_Local "worth" "Local.worth" s_Local_worth ["self", "spot"] := ⟨f_Local_worth, _, ⟨at_Local_worth, fn_Local_worth, k_Local_worth⟩, fun_mk l_Local_worth c_Local_worth k_Local_worth, (fun_mk l_Local_worth c_Local_worth k_Local_worth).binds fun _ _ _ _ _ _ us hl => match us, hl with | [_, _], _ => rfl⟩
  have cl_Spot : Cls K C_Spot := ⟨c1_C_Spot, c2_C_Spot, c3_C_Spot, c4_C_Spot⟩
  have cl_Number : Cls K C_Number := ⟨c1_C_Number, c2_C_Number, c3_C_Number, c4_C_Number⟩
  have cl_Here : Cls K C_Here := ⟨c1_C_Here, c2_C_Here, c3_C_Here, c4_C_Here⟩
  have cl_Cell : Cls K C_Cell := ⟨c1_C_Cell, c2_C_Cell, c3_C_Cell, c4_C_Cell⟩
  have cl_Shifted : Cls K C_Shifted := ⟨c1_C_Shifted, c2_C_Shifted, c3_C_Shifted, c4_C_Shifted⟩
  have cl_Local : Cls K C_Local := ⟨c1_C_Local, c2_C_Local, c3_C_Local, c4_C_Local⟩
  have mm := fun {x : Str} {v : Value} (q : PySem.W.nsIn K mainGlobals x = some (some v)) => PySem.W.mg_of X G q
  have mz := fun {x : Str} (q : PySem.W.nsIn K mainGlobals x = some none) => PySem.W.mg_none_of X G q
  refine ⟨PySem.W.fnOf "law" "law" (defArgs s_law) (defBody s_law) (defScope s_law) .none kV_law dc_law pm_law an_law cd_law ct_law, fun s v => .of_eq rfl, fun base kb nb => ?_⟩
  have N : Ints K mg := ⟨mz z_isinstance, mz z_int, mz z_bool, k5, k6⟩
  have W := ok_whole (P := l.prog) (w := w) (base := base) d_l_whole N
  have SO := ok_start (P := l.prog) (w := w) (base := base) d_start_of (mz z_sum)
  have sC : SpotC K C_Spot := ⟨cl_Spot, n_C_Spot_lengths, n_C_Spot_functions, n_C_Spot_cells, n_C_Spot_place, n_C_Spot_own⟩
  let c : Cs := ⟨C_Number, C_Here, C_Cell, C_Shifted, C_Local, 0, 0, 0, C_Spot⟩
  have LI := ok_lies (P := l.prog) (w := w) (base := base) (c := c) d_lies_in sC
  have CL := ok_cell (c := c) d_cell_at sC SO
  have WL : ∀ a b e, Worth l.prog w K mg base c 0 0 3 (leafF a b e) := fun a b e => by
    unfold leafF
    split
    · exact (w_num (c := c) d_Number_worth cl_Number n_C_Number_number).mono (by decide)
    split
    · exact (w_here (c := c) d_Here_worth cl_Here sC).mono (by decide)
    split
    · exact w_cell (c := c) d_Cell_worth cl_Cell n_C_Cell_row sC CL
    split
    · exact w_shi (c := c) d_Shifted_worth cl_Shifted n_C_Shifted_row n_C_Shifted_by n_C_Shifted_other sC LI CL
    · exact (w_loc (c := c) d_Local_worth cl_Local n_C_Local_at sC).mono (by decide)
  have IN := okI_Number (P := l.prog) (w := w) (mg := mg) (base := base) d_Number_init cl_Number n_C_Number_number
  have IC := okI_Cell (P := l.prog) (w := w) (mg := mg) (base := base) d_Cell_init cl_Cell n_C_Cell_row
  have IH := okI_Shifted (P := l.prog) (w := w) (mg := mg) (base := base) d_Shifted_init cl_Shifted n_C_Shifted_row n_C_Shifted_by n_C_Shifted_other
  have IL := okI_Local (P := l.prog) (w := w) (mg := mg) (base := base) d_Local_init cl_Local n_C_Local_at
  have IS := okI_Spot (P := l.prog) (w := w) (mg := mg) (base := base) d_Spot_init cl_Spot n_C_Spot_lengths n_C_Spot_functions n_C_Spot_cells n_C_Spot_place n_C_Spot_own
  have MH : MkN K C_Here := ⟨mk_C_Here, in_C_Here, kC_C_Here⟩
  have KB := ok_kept_by (P := l.prog) (w := w) (base := base) d_l_kept_by
  have MX := ok_mix (P := l.prog) (w := w) (base := base) d_l_mix
  have BY := ok_by (P := l.prog) (w := w) (base := base) d_l_by
  have LF := ok_leaf (c := c) d_l_leaf_by MX BY IN (mm a_C_Number) IC (mm a_C_Cell) IH (mm a_C_Shifted) IL (mm a_C_Local) MH (mm a_C_Here)
  have LC : LCls K c := ⟨cl_Number, n_C_Number_number, cl_Cell, n_C_Cell_row, cl_Shifted, n_C_Shifted_row, n_C_Shifted_by, n_C_Shifted_other, cl_Local, n_C_Local_at⟩
  have ILs : InsL K c FO := ⟨⟨cl_Number, i1_Number, i2_Number, i3_Number, i4_Number, kcf_Number⟩, ⟨cl_Here, i1_Here, i2_Here, i3_Here, i4_Here, kcf_Here⟩, ⟨cl_Cell, i1_Cell, i2_Cell, i3_Cell, i4_Cell, kcf_Cell⟩, ⟨cl_Shifted, i1_Shifted, i2_Shifted, i3_Shifted, i4_Shifted, kcf_Shifted⟩, ⟨cl_Local, i1_Local, i2_Local, i3_Local, i4_Local, kcf_Local⟩⟩
  have ON := ok_one (c := c) d_l_one (mz z_len) (mz z_range) (mz z_list) (mz z_sum) (mz z_isinstance) (mm b_FO) ILs WL (mm a_C_Spot) KB MX IS (ok_pl d_l_place_by MX) LF (ok_spotR (c := c) d_l_spot_right sC) (ok_fields (c := c) d_l_fields LC) BY (ok_right (c := c) d_l_right W) (ok_due d_l_due (mz z_len))
  exact ok_law (fun_mk (st := s_law) l_law c_law k_law) (mz z_len) (mz z_range) KB MX ON
theorem walk {l : PySem.W.OpenLaw} {q : Program} {loose : List Str} {XP : (Str → Option Value) → Heap → Prop} {YP : World → Heap → Prop} {d : DefRec} {K : Params → PySem.W.Frag} (hn : l.most = some 63) (hdf : d.params.defaults = [])
    (hY : ∀ (w : World) (h : Heap), YP w h → (K w.params).In h)
    (F : ∀ (w : World) (mg : Str → Option Value) (fa : Addr) (h : Heap), (K w.params).In h → h.Ns mainGlobals mg → mg d.name = some (.ref fa) →
      ∃ fd : FuncData, (∀ (s : Shared) (u : Value), BindsTo s fd ⟨[u], []⟩ [("_law_script", u)]) ∧ ∀ base : Heap, (K w.params).In base → base.Ns mainGlobals mg → FnOk l.prog w (K w.params) mg base CX0 6 fa fd ["_law_script"] (spLaw (K w.params))) :
    PySem.W.WalkO q loose XP YP l.row.toRowW d [] (fun f vs => PySem.call f vs) :=
  L2.walk_of (n := 63) (k := 6) (x := "_law_script") (CX := fun _ => CX0) (sp := fun w => spLaw (K w.params)) hn (by decide) hdf ⟨rfl, by decide, by decide⟩ hY F (fun _ _ a ns hl _ hS => ⟨a, ns, rfl, hS, hl, fun _ => rfl⟩) fun _ _ _ _ _ z => z
end K08

open PySem PySem.W PyProof.Rows
set_option maxRecDepth 100000 in
set_option maxHeartbeats 0 in
theorem PySem.Challenge.cw_rowbreadth_k08_leaves_holds : PySem.Challenge.rw_rowbreadth_k08_leaves.Holds := by
  w_on; o_law; k_head; (case hw => w_witness2)
  k_fill
  refine K08.walk (l := PySem.Challenge.rw_rowbreadth_k08_leaves) rfl rfl (fun w h Y => PySem.W.kIn_of Y) ?F
  case F =>
    intro w mg fa h KX G hmg
    refine' K08.all_mk KX G hmg ?kf_a_start_of ?kf_l_start_of ?kf_c_start_of ?kf_k_start_of ?kf_a_lies_in ?kf_l_lies_in ?kf_c_lies_in ?kf_k_lies_in ?kf_a_cell_at ?kf_l_cell_at ?kf_c_cell_at ?kf_k_cell_at ?kf_a_l_whole ?kf_l_l_whole ?kf_c_l_whole ?kf_k_l_whole ?kf_a_l_kept_by ?kf_l_l_kept_by ?kf_c_l_kept_by ?kf_k_l_kept_by ?kf_a_l_mix ?kf_l_l_mix ?kf_c_l_mix ?kf_k_l_mix ?kf_a_l_leaf_by ?kf_l_l_leaf_by ?kf_c_l_leaf_by ?kf_k_l_leaf_by ?kf_a_l_by ?kf_l_l_by ?kf_c_l_by ?kf_k_l_by ?kf_a_l_place_by ?kf_l_l_place_by ?kf_c_l_place_by ?kf_k_l_place_by ?kf_a_l_fields ?kf_l_l_fields ?kf_c_l_fields ?kf_k_l_fields ?kf_a_l_due ?kf_l_l_due ?kf_c_l_due ?kf_k_l_due ?kf_a_l_right ?kf_l_l_right ?kf_c_l_right ?kf_k_l_right ?kf_a_l_spot_right ?kf_l_l_spot_right ?kf_c_l_spot_right ?kf_k_l_spot_right ?kf_a_l_one ?kf_l_l_one ?kf_c_l_one ?kf_k_l_one ?kf_a_law ?kf_l_law ?kf_c_law ?kf_k_law ?kf_a_C_Spot ?kf_c1_C_Spot ?kf_c2_C_Spot ?kf_c3_C_Spot ?kf_c4_C_Spot ?kf_n_C_Spot_lengths ?kf_n_C_Spot_functions ?kf_n_C_Spot_cells ?kf_n_C_Spot_place ?kf_n_C_Spot_own ?kf_mk_C_Spot ?kf_kC_C_Spot ?kf_at_Spot_init ?kf_fn_Spot_init ?kf_l_Spot_init ?kf_c_Spot_init ?kf_k_Spot_init ?kf_a_C_Number ?kf_c1_C_Number ?kf_c2_C_Number ?kf_c3_C_Number ?kf_c4_C_Number ?kf_n_C_Number_number ?kf_mk_C_Number ?kf_kC_C_Number ?kf_at_Number_init ?kf_fn_Number_init ?kf_l_Number_init ?kf_c_Number_init ?kf_k_Number_init ?kf_at_Number_worth ?kf_fn_Number_worth ?kf_l_Number_worth ?kf_c_Number_worth ?kf_k_Number_worth ?kf_a_C_Here ?kf_c1_C_Here ?kf_c2_C_Here ?kf_c3_C_Here ?kf_c4_C_Here ?kf_mk_C_Here ?kf_kC_C_Here ?kf_in_C_Here ?kf_at_Here_worth ?kf_fn_Here_worth ?kf_l_Here_worth ?kf_c_Here_worth ?kf_k_Here_worth ?kf_a_C_Cell ?kf_c1_C_Cell ?kf_c2_C_Cell ?kf_c3_C_Cell ?kf_c4_C_Cell ?kf_n_C_Cell_row ?kf_mk_C_Cell ?kf_kC_C_Cell ?kf_at_Cell_init ?kf_fn_Cell_init ?kf_l_Cell_init ?kf_c_Cell_init ?kf_k_Cell_init ?kf_at_Cell_worth ?kf_fn_Cell_worth ?kf_l_Cell_worth ?kf_c_Cell_worth ?kf_k_Cell_worth ?kf_a_C_Shifted ?kf_c1_C_Shifted ?kf_c2_C_Shifted ?kf_c3_C_Shifted ?kf_c4_C_Shifted ?kf_n_C_Shifted_row ?kf_n_C_Shifted_by ?kf_n_C_Shifted_other ?kf_mk_C_Shifted ?kf_kC_C_Shifted ?kf_at_Shifted_init ?kf_fn_Shifted_init ?kf_l_Shifted_init ?kf_c_Shifted_init ?kf_k_Shifted_init ?kf_at_Shifted_worth ?kf_fn_Shifted_worth ?kf_l_Shifted_worth ?kf_c_Shifted_worth ?kf_k_Shifted_worth ?kf_a_C_Local ?kf_c1_C_Local ?kf_c2_C_Local ?kf_c3_C_Local ?kf_c4_C_Local ?kf_n_C_Local_at ?kf_mk_C_Local ?kf_kC_C_Local ?kf_at_Local_init ?kf_fn_Local_init ?kf_l_Local_init ?kf_c_Local_init ?kf_k_Local_init ?kf_at_Local_worth ?kf_fn_Local_worth ?kf_l_Local_worth ?kf_c_Local_worth ?kf_k_Local_worth ?kf_b_FO ?kf_k5 ?kf_k6 ?kf_i1_Number ?kf_i2_Number ?kf_i3_Number ?kf_i4_Number ?kf_kcf_Number ?kf_i1_Here ?kf_i2_Here ?kf_i3_Here ?kf_i4_Here ?kf_kcf_Here ?kf_i1_Cell ?kf_i2_Cell ?kf_i3_Cell ?kf_i4_Cell ?kf_kcf_Cell ?kf_i1_Shifted ?kf_i2_Shifted ?kf_i3_Shifted ?kf_i4_Shifted ?kf_kcf_Shifted ?kf_i1_Local ?kf_i2_Local ?kf_i3_Local ?kf_i4_Local ?kf_kcf_Local ?kf_z_isinstance ?kf_z_int ?kf_z_bool ?kf_z_len ?kf_z_range ?kf_z_sum ?kf_z_list
    (case kf_a_start_of => k_is)
    (case kf_l_start_of => k_is)
    (case kf_c_start_of => k_is)
    (case kf_k_start_of => k_is)
    (case kf_a_lies_in => k_is)
    (case kf_l_lies_in => k_is)
    (case kf_c_lies_in => k_is)
    (case kf_k_lies_in => k_is)
    (case kf_a_cell_at => k_is)
    (case kf_l_cell_at => k_is)
    (case kf_c_cell_at => k_is)
    (case kf_k_cell_at => k_is)
    (case kf_a_l_whole => k_is)
    (case kf_l_l_whole => k_is)
    (case kf_c_l_whole => k_is)
    (case kf_k_l_whole => k_is)
    (case kf_a_l_kept_by => k_is)
    (case kf_l_l_kept_by => k_is)
    (case kf_c_l_kept_by => k_is)
    (case kf_k_l_kept_by => k_is)
    (case kf_a_l_mix => k_is)
    (case kf_l_l_mix => k_is)
    (case kf_c_l_mix => k_is)
    (case kf_k_l_mix => k_is)
    (case kf_a_l_leaf_by => k_is)
    (case kf_l_l_leaf_by => k_is)
    (case kf_c_l_leaf_by => k_is)
    (case kf_k_l_leaf_by => k_is)
    (case kf_a_l_by => k_is)
    (case kf_l_l_by => k_is)
    (case kf_c_l_by => k_is)
    (case kf_k_l_by => k_is)
    (case kf_a_l_place_by => k_is)
    (case kf_l_l_place_by => k_is)
    (case kf_c_l_place_by => k_is)
    (case kf_k_l_place_by => k_is)
    (case kf_a_l_fields => k_is)
    (case kf_l_l_fields => k_is)
    (case kf_c_l_fields => k_is)
    (case kf_k_l_fields => k_is)
    (case kf_a_l_due => k_is)
    (case kf_l_l_due => k_is)
    (case kf_c_l_due => k_is)
    (case kf_k_l_due => k_is)
    (case kf_a_l_right => k_is)
    (case kf_l_l_right => k_is)
    (case kf_c_l_right => k_is)
    (case kf_k_l_right => k_is)
    (case kf_a_l_spot_right => k_is)
    (case kf_l_l_spot_right => k_is)
    (case kf_c_l_spot_right => k_is)
    (case kf_k_l_spot_right => k_is)
    (case kf_a_l_one => k_is)
    (case kf_l_l_one => k_is)
    (case kf_c_l_one => k_is)
    (case kf_k_l_one => k_is)
    (case kf_a_law => k_is)
    (case kf_l_law => k_is)
    (case kf_c_law => k_is)
    (case kf_k_law => k_is)
    (case kf_a_C_Spot => k_is)
    (case kf_c1_C_Spot => k_is)
    (case kf_c2_C_Spot => k_is)
    (case kf_c3_C_Spot => k_is)
    (case kf_c4_C_Spot => k_is)
    (case kf_n_C_Spot_lengths => k_is)
    (case kf_n_C_Spot_functions => k_is)
    (case kf_n_C_Spot_cells => k_is)
    (case kf_n_C_Spot_place => k_is)
    (case kf_n_C_Spot_own => k_is)
    (case kf_mk_C_Spot => k_is)
    (case kf_kC_C_Spot => k_is)
    (case kf_at_Spot_init => k_is)
    (case kf_fn_Spot_init => k_is)
    (case kf_l_Spot_init => k_is)
    (case kf_c_Spot_init => k_is)
    (case kf_k_Spot_init => k_is)
    (case kf_a_C_Number => k_is)
    (case kf_c1_C_Number => k_is)
    (case kf_c2_C_Number => k_is)
    (case kf_c3_C_Number => k_is)
    (case kf_c4_C_Number => k_is)
    (case kf_n_C_Number_number => k_is)
    (case kf_mk_C_Number => k_is)
    (case kf_kC_C_Number => k_is)
    (case kf_at_Number_init => k_is)
    (case kf_fn_Number_init => k_is)
    (case kf_l_Number_init => k_is)
    (case kf_c_Number_init => k_is)
    (case kf_k_Number_init => k_is)
    (case kf_at_Number_worth => k_is)
    (case kf_fn_Number_worth => k_is)
    (case kf_l_Number_worth => k_is)
    (case kf_c_Number_worth => k_is)
    (case kf_k_Number_worth => k_is)
    (case kf_a_C_Here => k_is)
    (case kf_c1_C_Here => k_is)
    (case kf_c2_C_Here => k_is)
    (case kf_c3_C_Here => k_is)
    (case kf_c4_C_Here => k_is)
    (case kf_mk_C_Here => k_is)
    (case kf_kC_C_Here => k_is)
    (case kf_in_C_Here => k_is)
    (case kf_at_Here_worth => k_is)
    (case kf_fn_Here_worth => k_is)
    (case kf_l_Here_worth => k_is)
    (case kf_c_Here_worth => k_is)
    (case kf_k_Here_worth => k_is)
    (case kf_a_C_Cell => k_is)
    (case kf_c1_C_Cell => k_is)
    (case kf_c2_C_Cell => k_is)
    (case kf_c3_C_Cell => k_is)
    (case kf_c4_C_Cell => k_is)
    (case kf_n_C_Cell_row => k_is)
    (case kf_mk_C_Cell => k_is)
    (case kf_kC_C_Cell => k_is)
    (case kf_at_Cell_init => k_is)
    (case kf_fn_Cell_init => k_is)
    (case kf_l_Cell_init => k_is)
    (case kf_c_Cell_init => k_is)
    (case kf_k_Cell_init => k_is)
    (case kf_at_Cell_worth => k_is)
    (case kf_fn_Cell_worth => k_is)
    (case kf_l_Cell_worth => k_is)
    (case kf_c_Cell_worth => k_is)
    (case kf_k_Cell_worth => k_is)
    (case kf_a_C_Shifted => k_is)
    (case kf_c1_C_Shifted => k_is)
    (case kf_c2_C_Shifted => k_is)
    (case kf_c3_C_Shifted => k_is)
    (case kf_c4_C_Shifted => k_is)
    (case kf_n_C_Shifted_row => k_is)
    (case kf_n_C_Shifted_by => k_is)
    (case kf_n_C_Shifted_other => k_is)
    (case kf_mk_C_Shifted => k_is)
    (case kf_kC_C_Shifted => k_is)
    (case kf_at_Shifted_init => k_is)
    (case kf_fn_Shifted_init => k_is)
    (case kf_l_Shifted_init => k_is)
    (case kf_c_Shifted_init => k_is)
    (case kf_k_Shifted_init => k_is)
    (case kf_at_Shifted_worth => k_is)
    (case kf_fn_Shifted_worth => k_is)
    (case kf_l_Shifted_worth => k_is)
    (case kf_c_Shifted_worth => k_is)
    (case kf_k_Shifted_worth => k_is)
    (case kf_a_C_Local => k_is)
    (case kf_c1_C_Local => k_is)
    (case kf_c2_C_Local => k_is)
    (case kf_c3_C_Local => k_is)
    (case kf_c4_C_Local => k_is)
    (case kf_n_C_Local_at => k_is)
    (case kf_mk_C_Local => k_is)
    (case kf_kC_C_Local => k_is)
    (case kf_at_Local_init => k_is)
    (case kf_fn_Local_init => k_is)
    (case kf_l_Local_init => k_is)
    (case kf_c_Local_init => k_is)
    (case kf_k_Local_init => k_is)
    (case kf_at_Local_worth => k_is)
    (case kf_fn_Local_worth => k_is)
    (case kf_l_Local_worth => k_is)
    (case kf_c_Local_worth => k_is)
    (case kf_k_Local_worth => k_is)
    (case kf_b_FO => k_is)
    (case kf_k5 => kit_is)
    (case kf_k6 => kit_is)
    (case kf_i1_Number => k_is)
    (case kf_i2_Number => k_is)
    (case kf_i3_Number => k_is)
    (case kf_i4_Number => k_is)
    (case kf_kcf_Number => kit_is)
    (case kf_i1_Here => k_is)
    (case kf_i2_Here => k_is)
    (case kf_i3_Here => k_is)
    (case kf_i4_Here => k_is)
    (case kf_kcf_Here => kit_is)
    (case kf_i1_Cell => k_is)
    (case kf_i2_Cell => k_is)
    (case kf_i3_Cell => k_is)
    (case kf_i4_Cell => k_is)
    (case kf_kcf_Cell => kit_is)
    (case kf_i1_Shifted => k_is)
    (case kf_i2_Shifted => k_is)
    (case kf_i3_Shifted => k_is)
    (case kf_i4_Shifted => k_is)
    (case kf_kcf_Shifted => kit_is)
    (case kf_i1_Local => k_is)
    (case kf_i2_Local => k_is)
    (case kf_i3_Local => k_is)
    (case kf_i4_Local => k_is)
    (case kf_kcf_Local => kit_is)
    (case kf_z_isinstance => k_is)
    (case kf_z_int => k_is)
    (case kf_z_bool => k_is)
    (case kf_z_len => k_is)
    (case kf_z_range => k_is)
    (case kf_z_sum => k_is)
    (case kf_z_list => k_is)


