import PyProof.Rows.All
import Wide.All
import OpenK.AllK
import Wide.FinOn
import Lean
import PyProof.EqAt
import PyProof.EqKinds
import PyProof.TupleCall
import PySem.Challenge.RW_rowbreadth_k16_fold_and_running
set_option Elab.async false
set_option linter.all false
set_option maxRecDepth 100000
set_option maxHeartbeats 4000000
def PySem.W.Fast.tw9525651747091461029 : Unit := ()
def PySem.W.Fast.tw14014646344350914061 : Unit := ()
def PySem.W.Fast.tw9297148882533456650 : Unit := ()
def PySem.W.Fast.tw6293914062353705431 : Unit := ()
def PySem.W.Fast.tw12452067929629527470 : Unit := ()
def PySem.W.Fast.tw13865244722065212455 : Unit := ()
def PySem.W.Fast.tw15300829917621909472 : Unit := ()
def PySem.W.Fast.tw1483466691941342678 : Unit := ()
def PySem.W.Fast.tw7827709650537490409 : Unit := ()
def PySem.W.Fast.tw11169062738428546727 : Unit := ()
def PySem.W.Fast.tw12828602367360775169 : Unit := ()
def PySem.W.Fast.tw1858647776925688073 : Unit := ()
def PySem.W.Fast.tw10630226659228095774 : Unit := ()
def PySem.W.Fast.tw13924266417596964158 : Unit := ()
def PySem.W.Fast.tw2712761655357641694 : Unit := ()
def PySem.W.Fast.tw7513269270911756580 : Unit := ()
def PySem.W.Fast.tw11021034791630347024 : Unit := ()
def PySem.W.Fast.tw1967256378299695267 : Unit := ()
def PySem.W.Fast.tw13500576984660020960 : Unit := ()
def PySem.W.Fast.tw9173667361191586066 : Unit := ()
def PySem.W.Fast.tw1908875775664749075 : Unit := ()
def PySem.W.Fast.tw4556699967810327484 : Unit := ()
def PySem.W.Fast.tw16981860152482647616 : Unit := ()
def PySem.W.Fast.tw13825797715667710780 : Unit := ()
def PySem.W.Fast.tw1018405687515657707 : Unit := ()
def PySem.W.Fast.tw3788949819708473033 : Unit := ()
def PySem.W.Fast.tw18247758192910848754 : Unit := ()
def PySem.W.Fast.tw12136416171934521496 : Unit := ()
def PySem.W.Fast.tw9305118627853054052 : Unit := ()
def PySem.W.Fast.tw16875614301829338706 : Unit := ()
def PySem.W.Fast.tw15997803978553415797 : Unit := ()
def PySem.W.Fast.tw9420061062479874563 : Unit := ()
def PySem.W.Fast.tw12027442209903278227 : Unit := ()
def PySem.W.Fast.tw6169261774700784888 : Unit := ()
def PySem.W.Fast.tw16512924669732358085 : Unit := ()
def PySem.W.Fast.tw13093885081024410274 : Unit := ()
def PySem.W.Fast.tw18273618507914123348 : Unit := ()
def PySem.W.Fast.tw17512576699894648423 : Unit := ()
def PySem.W.Fast.tw3744600175866643692 : Unit := ()
def PySem.W.Fast.tw13230026952999588818 : Unit := ()
def PySem.W.Fast.tw13156795921121120695 : Unit := ()
def PySem.W.Fast.tw3051376980206977812 : Unit := ()
def PySem.W.Fast.tw13790154146887909844 : Unit := ()
def PySem.W.Fast.tw11066374894605107419 : Unit := ()
def PySem.W.Fast.tw16023478899277213270 : Unit := ()
def PySem.W.Fast.tw3929858959101013299 : Unit := ()
def PySem.W.Fast.tw4905066700273053580 : Unit := ()
def PySem.W.Fast.tw11376854776988613003 : Unit := ()
def PySem.W.Fast.tw17926842487067772299 : Unit := ()
def PySem.W.Fast.tw7479641023665976658 : Unit := ()
def PySem.W.Fast.tw8963943265822133549 : Unit := ()
def PySem.W.Fast.tw14233105937616318885 : Unit := ()
def PySem.W.Fast.tw17965855890825255416 : Unit := ()
def PySem.W.Fast.tw2037608984140148529 : Unit := ()
def PySem.W.Fast.tw1681616048079465921 : Unit := ()
def PySem.W.Fast.tw13736301550072473162 : Unit := ()
def PySem.W.Fast.tw33394327704989091 : Unit := ()
def PySem.W.Fast.tw8968810177822775075 : Unit := ()
def PySem.W.Fast.tw17541960194850151063 : Unit := ()
def PySem.W.Fast.tw6919128003196066670 : Unit := ()
def PySem.W.Fast.tw4467583862702113010 : Unit := ()
def PySem.W.Fast.tw11299039798682904292 : Unit := ()
def PySem.W.Fast.tw5210751539823612326 : Unit := ()
def PySem.W.Fast.tw8869281190738103986 : Unit := ()
def PySem.W.Fast.tw15488958499381593114 : Unit := ()
def PySem.W.Fast.tw1853471858963523770 : Unit := ()
def PySem.W.Fast.tw13736243604344816906 : Unit := ()
def PySem.W.Fast.tw6327794127696790182 : Unit := ()
def PySem.W.Fast.tw17764401510965209361 : Unit := ()
def PySem.W.Fast.tw15415309611523670147 : Unit := ()
def PySem.W.Fast.tw4123338891435126437 : Unit := ()
def PySem.W.Fast.tw12930332425521843089 : Unit := ()
def PySem.W.Fast.tw15530975372236569674 : Unit := ()
def PySem.W.Fast.tw4794679575887720866 : Unit := ()
def PySem.W.Fast.tw11169289303024981599 : Unit := ()
def PySem.W.Fast.tw4933649762194906753 : Unit := ()
def PySem.W.Fast.tw4080545046491825306 : Unit := ()
def PySem.W.Fast.tw12278883305436903486 : Unit := ()
def PySem.W.Fast.tw12037586068448849007 : Unit := ()
def PySem.W.Fast.tw17322052536835788565 : Unit := ()
def PySem.W.Fast.tw9664293665483671019 : Unit := ()
def PySem.W.Fast.tw15174058514225286395 : Unit := ()
def PySem.W.Fast.tw9033076821442033999 : Unit := ()
def PySem.W.Fast.tw7905658639995977022 : Unit := ()
def PySem.W.Fast.tw15858242641195572427 : Unit := ()
def PySem.W.Fast.tw6918022108595143270 : Unit := ()
def PySem.W.Fast.tw13674599568773958015 : Unit := ()
def PySem.W.Fast.tw14155386715776250870 : Unit := ()
def PySem.W.Fast.tw4137266597762137406 : Unit := ()
def PySem.W.Fast.tw7246392785995608507 : Unit := ()
def PySem.W.Fast.tw5594786378008622839 : Unit := ()
def PySem.W.Fast.tw17277166521900819348 : Unit := ()
def PySem.W.Fast.tw11081639007165485043 : Unit := ()
def PySem.W.Fast.tw13152856066582746715 : Unit := ()
def PySem.W.Fast.tw17349307145484075002 : Unit := ()
def PySem.W.Fast.tw14955661314455318656 : Unit := ()
def PySem.W.Fast.tw14990781404127011415 : Unit := ()
def PySem.W.Fast.tw6120290472944962555 : Unit := ()
def PySem.W.Fast.tw7641963914031354286 : Unit := ()
def PySem.W.Fast.tw6734657464238374746 : Unit := ()
def PySem.W.Fast.tw11815790817464107826 : Unit := ()
def PySem.W.Fast.tw3226761745025296223 : Unit := ()
def PySem.W.Fast.tw6769958738987742848 : Unit := ()
def PySem.W.Fast.tw9427368787186007846 : Unit := ()
def PySem.W.Fast.tw7181676472708058393 : Unit := ()
/-! THE HAND LAYER, for ints, bools, texts, own classes, LISTS and tuples (index, slices, in, append, pop ..), calls, loops. Paste it whole ahead of your own text; what your proof does not reach may be deleted. -/
namespace L2
open PySem PySem.Spec PyProof.Rows

/-- a key: an int or a str -/
abbrev Key := Sum Int Str
def keyIs : Key → Value → Bool
  | .inl k, v => Value.isInt k v
  | .inr x, v => Value.isStrOf x v
def keyH (w : World) : Key → Int
  | .inl k => hashInt k
  | .inr x => hashStr w x
theorem keyIs_shape : ∀ {k : Key} {v : Value}, keyIs k v = true → (∃ i t, k = Sum.inl i ∧ v = Value.int i t) ∨ (∃ x t, k = Sum.inr x ∧ v = Value.str x t)
  | .inl i, v, h => by
    obtain ⟨t, e⟩ := Value.isInt_shape (k := i) (v := v) h
    exact .inl ⟨i, t, rfl, e⟩
  | .inr x, v, h => by
    obtain ⟨t, e⟩ := Value.isStrOf_shape (x := x) (v := v) h
    exact .inr ⟨x, t, rfl, e⟩
theorem key_ll (a b : Int) : decide ((Sum.inl a : Key) = Sum.inl b) = (a == b) := by
  by_cases e : a = b
  · subst e; simp
  · have h : ¬ (Sum.inl a : Key) = Sum.inl b := fun q => e (Sum.inl.inj q)
    rw [decide_eq_false h]
    exact (beq_eq_false_iff_ne.mpr e).symm
theorem key_rr (a b : Str) : decide ((Sum.inr a : Key) = Sum.inr b) = decide (a = b) := by
  by_cases e : a = b
  · subst e; simp
  · have h : ¬ (Sum.inr a : Key) = Sum.inr b := fun q => e (Sum.inr.inj q)
    rw [decide_eq_false h, decide_eq_false e]
theorem key_lr (a : Int) (b : Str) : decide ((Sum.inl a : Key) = Sum.inr b) = false := decide_eq_false (fun q => nomatch q)
theorem key_rl (a : Str) (b : Int) : decide ((Sum.inr a : Key) = Sum.inl b) = false := decide_eq_false (fun q => nomatch q)

def mixKind (prog : Program) (w : World) : PySem.KeyKind prog w Key where
  is := keyIs
  hash := keyH w
  inj := fun v a b ha hb => by
    rcases keyIs_shape ha with ⟨i, t, rfl, rfl⟩ | ⟨x, t, rfl, rfl⟩
    · rcases keyIs_shape hb with ⟨j, u, rfl, e⟩ | ⟨y, u, rfl, e⟩
      · injection e with e1 _; rw [e1]
      · exact nomatch e
    · rcases keyIs_shape hb with ⟨j, u, rfl, e⟩ | ⟨y, u, rfl, e⟩
      · exact nomatch e
      · injection e with e1 _; rw [e1]
  byValue := fun k v h => by
    rcases keyIs_shape h with ⟨i, t, rfl, rfl⟩ | ⟨x, t, rfl, rfl⟩ <;> rfl
  pyHash := fun hv h => by
    rcases keyIs_shape hv with ⟨i, t, rfl, rfl⟩ | ⟨x, t, rfl, rfl⟩
    · exact wpAny_pyHash_int h
    · exact wpAny_pyHash_str h
  eqBool := fun hu hv h => by
    rcases keyIs_shape hu with ⟨i, t, rfl, rfl⟩ | ⟨x, t, rfl, rfl⟩
    · rcases keyIs_shape hv with ⟨j, u, rfl, rfl⟩ | ⟨y, u, rfl, rfl⟩
      · rw [key_ll] at h; exact wpAny_eqBool_int h
      · rw [key_lr] at h; exact SeqAt.EqAt.int_str i t y u _ _ _ _ h
    · rcases keyIs_shape hv with ⟨j, u, rfl, rfl⟩ | ⟨y, u, rfl, rfl⟩
      · rw [key_rl] at h; exact SeqAt.EqAt.str_int x t j u _ _ _ _ h
      · rw [key_rr] at h; exact wpAny_eqBool_str h
  «strs» := fun k x t v h => by
    rcases keyIs_shape h with ⟨i, u, rfl, e⟩ | ⟨y, u, rfl, e⟩
    · exact nomatch e
    · injection e with e1 _
      subst e1
      cases v <;> rfl

end L2

namespace L2
open PySem PySem.Spec PyProof.Rows

/-- a value, without the heap -/
inductive V where
  | non | bl (b : Bool) | int (i : Int) | str (x : Str) | byt (b : Array UInt8) | flt (b : UInt64) | ref (a : Addr) | ty (n : String)
  deriving DecidableEq

def RelV : V → Value → Prop
  | .non, u => u = Value.none
  | .bl b, u => u = Value.bool b
  | .int i, u => ∃ t, u = Value.int i t
  | .str x, u => ∃ t, u = Value.str x t
  | .byt b, u => ∃ t, u = Value.bytes b t
  | .flt b, u => ∃ t, u = Value.float b t
  | .ref a, u => u = Value.ref a
  | .ty n, u => u = Value.type n

abbrev Vals : List V → List Value → Prop := Paired RelV
theorem Vals.length {xs : List V} {us : List Value} (r : Vals xs us) : xs.length = us.length := Paired.length r
theorem Vals.get : ∀ {xs : List V} {us : List Value} {i : Nat} {x : V}, Vals xs us → xs[i]? = some x → ∃ u, us[i]? = some u ∧ RelV x u
  | _, _, _, _, .nil, e => by simp at e
  | _, _, 0, _, .cons r _, e => by simp at e; subst e; exact ⟨_, rfl, r⟩
  | _, _, i + 1, x, .cons _ t, e => by
    obtain ⟨u, h1, h2⟩ := Vals.get (i := i) (x := x) t (by simpa using e)
    exact ⟨u, by simpa using h1, h2⟩
theorem Vals.set {x : V} {u : Value} (r : RelV x u) : ∀ {xs : List V} {us : List Value} (i : Nat), Vals xs us → Vals (xs.set i x) (us.set i u)
  | _, _, _, .nil => .nil
  | _, _, 0, .cons _ t => .cons r t
  | _, _, i + 1, .cons q t => .cons q (Vals.set r i t)
theorem Vals.append : ∀ {xs ys : List V} {us ws : List Value}, Vals xs us → Vals ys ws → Vals (xs ++ ys) (us ++ ws)
  | _, _, _, _, .nil, s => s
  | _, _, _, _, .cons r t, s => .cons r (Vals.append t s)
theorem Vals.take : ∀ {xs : List V} {us : List Value} (n : Nat), Vals xs us → Vals (xs.take n) (us.take n)
  | _, _, 0, _ => .nil
  | _, _, _ + 1, .nil => .nil
  | _, _, n + 1, .cons r t => .cons r (Vals.take n t)
theorem Vals.drop : ∀ {xs : List V} {us : List Value} (n : Nat), Vals xs us → Vals (xs.drop n) (us.drop n)
  | _, _, 0, r => r
  | _, _, _ + 1, .nil => .nil
  | _, _, n + 1, .cons _ t => Vals.drop n t
theorem Vals.none_of : ∀ {xs : List V} {us : List Value} {i : Nat}, Vals xs us → xs[i]? = none → us[i]? = none := fun {xs us i} r e => by
  have h1 := r.length
  have h2 : xs.length ≤ i := List.getElem?_eq_none_iff.mp e
  exact List.getElem?_eq_none_iff.mpr (by omega)

def RelO : Option V → Option Value → Prop
  | some v, some u => RelV v u
  | none, none => True
  | _, _ => False
def KV {κ : Type} : List (κ × V) → List (κ × Value) → Prop := Paired fun (p : κ × V) (q : κ × Value) => p.1 = q.1 ∧ RelV p.2 q.2

/-- a key of a dict (00_mix): an int or a text -/
def kV : Key → V
  | .inl i => .int i
  | .inr x => .str x

/-- what stands at a tracked address -/
inductive HO where
  /-- a list -/
  | lst (xs : List V)
  /-- a tuple (never changes) -/
  | tup (xs : List V)
  /-- a dict whose keys are ints and texts; one whose keys are tuples of ints and texts (the empty one is both) -/
  | dK (kvs : List (Key × V)) | dT (kvs : List (List Key × V))
  /-- a set of ints: its members, its size -/
  | set (S : Int → Bool) (n : Nat)
  /-- an instance of the class at C, its dict at dx, its attributes -/
  | ins (C dx : Addr) (fs : List (Str × V))
  /-- the dict of the instance at x -/
  | own (x : Addr)
  /-- the dict of an exception -/
  | xd (fs : List (Str × V))
  /-- a bound method, f of x -/
  | met (f x : Addr)
  /-- a range object lo, lo + 1, .. below hi -/
  | rng (lo hi : Int)
  /-- a thing that is known to the object (the script; a dict while a loop walks it): read, never written while it is so -/
  | frz (o : Obj) (u : HO)
  /-- a code object's table -/
  | tbl (ps : Array Value)
  /-- any other thing, by what is true of its one object (a def of one's own: SetO a S n := HO.ext fun h => ..) -/
  | ext (φ : Heap → Prop)

abbrev Hp := Addr → Option HO
def upd (H : Hp) (a : Addr) (o : HO) : Hp := fun b => if b = a then some o else H b
theorem upd_same {H : Hp} {a : Addr} {o : HO} : upd H a o a = some o := by unfold upd; rw [if_pos rfl]
theorem upd_ne {H : Hp} {a b : Addr} {o : HO} (h : b ≠ a) : upd H a o b = H b := by unfold upd; rw [if_neg h]
theorem ne_of_none {H : Hp} {a b : Addr} {o : HO} (h : H a = some o) (h' : H b = none) : a ≠ b := by
  intro e; subst e; rw [h] at h'; cases h'

section
variable (P : Program) (w : World)
def ObjOk (H : Hp) (h : Heap) (a : Addr) : HO → Prop
  | .lst xs => xs.length ≤ sizeLine ∧ ∃ (its : List Value) (n : Nat), Vals xs its ∧ h.get? a = some { cls := .type "list", data := .seq its.toArray n }
  | .tup xs => xs.length ≤ sizeLine ∧ ∃ its : List Value, Vals xs its ∧ IsTup h a its.toArray
  | .dK kvs => kvs.length ≤ sizeLine ∧ (a == sysModules) = false ∧ ∃ vs, KV kvs vs ∧ h.DictOf (mixKind P w) a vs
  | .dT kvs => kvs.length ≤ sizeLine ∧ (a == sysModules) = false ∧ ∃ xs : List (List Key × Addr × Value),
      Paired (fun (p : List Key × V) (q : List Key × Addr × Value) => p.1 = q.1 ∧ H q.2.1 = some (.tup (p.1.map kV)) ∧ RelV p.2 q.2.2) kvs xs ∧
      ∃ o es ep, h.get? a = some o ∧ o.ExactDict ∧ o.data = .dict es ep ∧ es.toList = xs.map (entryOfKey (tupleKind (mixKind P w))) ∧ (xs.map (·.1)).Nodup
  | .set S n => h.SetOf (intKind P w) a S n
  | .ins C dx fs => H dx = some (.own a) ∧ fs.length ≤ 1000 ∧ dx ≠ a ∧ h.get? a = some (PySem.W.instObj C dx) ∧
      ∃ mA, h.Ns1 dx mA ∧ (∀ f, RelO (fs.lookup f) (mA f)) ∧ PySem.Within mA (fs.map (·.1))
  | .own _ => ∃ o, h.get? a = some o
  | .xd fs => ∃ mA, h.Ns1 a mA ∧ ∀ f, RelO (fs.lookup f) (mA f)
  | .rng lo hi => ∃ t u v, h.get? a = some { cls := .type "range", data := .fields #[.int lo t, .int hi u, .int 1 v] }
  | .frz o u => h.get? a = some o ∧ ObjOk H h a u
  | .tbl ps => h.get? a = some { cls := .none, data := .fields ps }
  | .met f x => h.get? a = some (PySem.W.methodObj (.ref f) (.ref x))
  | .ext φ => φ h ∧ (∃ o, h.get? a = some o) ∧ ∀ h1 h2 : Heap, φ h1 → (∀ o, h1.get? a = some o → h2.get? a = some o) → φ h2
/-- the abstract heap is held -/
def HOk (H : Hp) (h : Heap) : Prop := ∀ a o, H a = some o → ObjOk P w H h a o
end

section
variable {P : Program} {w : World} {H H' : Hp} {h h' : Heap} {a : Addr} {o : HO}
theorem ObjOk.lt (x : ObjOk P w H h a o) : a < h.objs.size := by
  cases o with
  | lst xs => obtain ⟨_, _, _, _, e⟩ := x; exact Heap.lt_size e
  | tup xs => obtain ⟨_, _, _, p⟩ := x; exact p.lt
  | dK kvs => obtain ⟨_, _, _, _, o, _, _, e, _⟩ := x; exact Heap.lt_size e
  | dT kvs => obtain ⟨_, _, _, _, o, _, _, e, _⟩ := x; exact Heap.lt_size e
  | set S n => obtain ⟨o, _, _, _, e, _⟩ := x; exact Heap.lt_size e
  | ins C dx fs => obtain ⟨_, _, _, e, _⟩ := x; exact Heap.lt_size e
  | own y => obtain ⟨_, e⟩ := x; exact Heap.lt_size e
  | xd fs => obtain ⟨_, ⟨_, _, _, e, _⟩, _⟩ := x; exact Heap.lt_size e
  | rng lo hi => obtain ⟨_, _, _, e⟩ := x; exact Heap.lt_size e
  | frz ob u => obtain ⟨e, _⟩ := x; exact Heap.lt_size e
  | tbl ps => exact Heap.lt_size (show h.get? a = some _ from x)
  | met f y => exact Heap.lt_size (show h.get? a = some _ from x)
  | ext φ => obtain ⟨_, ⟨_, e⟩, _⟩ := x; exact Heap.lt_size e
theorem Paired.mapP {α β : Type} {F G : α → β → Prop} : ∀ {l₁ : List α} {l₂ : List β}, Paired F l₁ l₂ → (∀ a b, F a b → G a b) → Paired G l₁ l₂
  | _, _, .nil, _ => .nil
  | _, _, .cons r t, f => .cons (f _ _ r) (Paired.mapP t f)
/-- what an object's description leans on: its own object, its own dict, the tuples -/
theorem ObjOk.stay (x : ObjOk P w H h a o) (k : ∀ b u, (b = a ∨ H b = some (.own a)) → h.get? b = some u → h'.get? b = some u)
    (ho : ∀ b, H b = some (.own a) → H' b = some (.own a)) (ht : ∀ b xs, H b = some (.tup xs) → H' b = some (.tup xs)) : ObjOk P w H' h' a o := by
  induction o with
  | lst xs => obtain ⟨z, its, n, r, e⟩ := x; exact ⟨z, its, n, r, k _ _ (.inl rfl) e⟩
  | tup xs => obtain ⟨z, its, r, ob, e, c⟩ := x; exact ⟨z, its, r, ob, k _ _ (.inl rfl) e, c⟩
  | dK kvs => obtain ⟨z, y, vs, r, ob, es, ep, e, c⟩ := x; exact ⟨z, y, vs, r, ob, es, ep, k _ _ (.inl rfl) e, c⟩
  | dT kvs =>
    obtain ⟨z, y, xs, r, ob, es, ep, e, c⟩ := x
    exact ⟨z, y, xs, Paired.mapP r fun p q z => ⟨z.1, ht _ _ z.2.1, z.2.2⟩, ob, es, ep, k _ _ (.inl rfl) e, c⟩
  | set S n => obtain ⟨ob, es, ep, t, e, c⟩ := x; exact ⟨ob, es, ep, t, k _ _ (.inl rfl) e, c⟩
  | ins C dx fs =>
    obtain ⟨d, z, ne, e, mA, ⟨od, es, ep, e2, c⟩, r⟩ := x
    exact ⟨ho _ d, z, ne, k _ _ (.inl rfl) e, mA, ⟨od, es, ep, k _ _ (.inr d) e2, c⟩, r⟩
  | own y => obtain ⟨ob, e⟩ := x; exact ⟨ob, k _ _ (.inl rfl) e⟩
  | xd fs => obtain ⟨mA, ⟨od, es, ep, e, c⟩, r⟩ := x; exact ⟨mA, ⟨od, es, ep, k _ _ (.inl rfl) e, c⟩, r⟩
  | rng lo hi => obtain ⟨t, u, v, e⟩ := x; exact ⟨t, u, v, k _ _ (.inl rfl) e⟩
  | frz ob u ih => obtain ⟨e, q⟩ := x; exact ⟨k _ _ (.inl rfl) e, ih q⟩
  | tbl ps =>
    have e : h.get? a = some { cls := .none, data := .fields ps } := x
    show h'.get? a = some { cls := .none, data := .fields ps }
    exact k a _ (.inl rfl) e
  | met f y =>
    have e : h.get? a = some (PySem.W.methodObj (.ref f) (.ref y)) := x
    show h'.get? a = some (PySem.W.methodObj (.ref f) (.ref y))
    exact k a _ (.inl rfl) e
  | ext φ => obtain ⟨p, ⟨o, e⟩, st⟩ := x; exact ⟨st _ _ p fun o q => k _ _ (.inl rfl) q, ⟨o, k _ _ (.inl rfl) e⟩, st⟩
theorem HOk.lt (x : HOk P w H h) (e : H a = some o) : a < h.objs.size := (x a o e).lt
theorem HOk.fresh (x : HOk P w H h) (e : h.objs.size ≤ a) : H a = none := by
  cases q : H a with
  | none => rfl
  | some u => exact absurd (Nat.lt_of_lt_of_le (x.lt q) e) (Nat.lt_irrefl _)
/-- every object of the heap is kept -/
theorem HOk.kept (x : HOk P w H h) (k : ∀ b u, h.get? b = some u → h'.get? b = some u) : HOk P w H h' := fun a o e =>
  (x a o e).stay (fun b u _ q => k b u q) (fun _ q => q) fun _ _ q => q
/-- a new object is laid and tracked -/
theorem HOk.laid (x : HOk P w H h) (k : ∀ b u, h.get? b = some u → h'.get? b = some u) (hp : h.objs.size ≤ a) (new : ObjOk P w (upd H a o) h' a o) : HOk P w (upd H a o) h' := fun b u e => by
  have hn := x.fresh hp
  by_cases hb : b = a
  · subst hb; rw [upd_same] at e; cases e; exact new
  · rw [upd_ne hb] at e
    exact (x b u e).stay (fun c v _ q => k c v q) (fun c q => by rw [upd_ne (ne_of_none q hn)]; exact q) fun c xs q => by rw [upd_ne (ne_of_none q hn)]; exact q
end

/-- what may be read as u: it is u, or a known u -/
def Rd (H : Hp) (a : Addr) (u : HO) : Prop := H a = some u ∨ ∃ o, H a = some (.frz o u)
theorem Rd.of {H : Hp} {a : Addr} {u : HO} (h : H a = some u) : Rd H a u := .inl h
theorem Rd.ok {P : Program} {w : World} {H : Hp} {h : Heap} {a : Addr} {u : HO} (r : Rd H a u) (x : HOk P w H h) : ObjOk P w H h a u := by
  rcases r with r | ⟨o, r⟩
  · exact x a u r
  · obtain ⟨_, q⟩ := x a _ r
    exact q
/-- what may be written -/
def Mut : Option HO → Prop
  | some (.lst _) => True
  | some (.dK _) => True
  | some (.dT _) => True
  | some (.set _ _) => True
  | some (.ins _ _ _) => True
  | some (.ext _) => True
  | _ => False
section
variable {P : Program} {w : World} {H : Hp} {h h' : Heap} {x e : Addr} {o' : HO}
/-- the object at e is changed: x itself, or the dict of the instance x -/
theorem HOk.write (ok : HOk P w H h) (mu : Mut (H x)) (he : e = x ∨ H e = some (.own x)) (k : ∀ b u, b ≠ e → h.get? b = some u → h'.get? b = some u) (heo : ∃ u, h'.get? e = some u)
    (new : ObjOk P w (upd H x o') h' x o') : HOk P w (upd H x o') h' := fun b u q => by
  have nown : ∀ c y, H c = some (.own y) → c ≠ x := fun c y r z => by subst z; rw [r] at mu; exact mu
  have ntup : ∀ c xs, H c = some (.tup xs) → c ≠ x := fun c xs r z => by subst z; rw [r] at mu; exact mu
  by_cases hb : b = x
  · subst hb; rw [upd_same] at q; cases q; exact new
  · rw [upd_ne hb] at q
    by_cases hbe : b = e
    · have q' : H b = some (.own x) := by
        rcases he with z | z
        · exact absurd (hbe.trans z) hb
        · rw [hbe]; exact z
      rw [q] at q'; cases q'
      obtain ⟨v, hv⟩ := heo
      exact ⟨v, by rw [hbe]; exact hv⟩
    · refine (ok b u q).stay (fun c v hc r => k c v ?_ r) (fun c r => by rw [upd_ne (nown c b r)]; exact r) fun c xs r => by rw [upd_ne (ntup c xs r)]; exact r
      rcases hc with rfl | hc
      · exact hbe
      · rintro rfl
        rcases he with z | z
        · exact nown c b hc z
        · rw [hc] at z; cases z; exact hb rfl
end

/-! ### kept unless tracked; of the frames at fs (the callers') the slots may change (an exception that passes writes there); of the records at ex (iterators) nothing is said -/
structure Un (fs ex : List Addr) (H H' : Hp) (h h' : Heap) : Prop where
  keep : ∀ b o, h.get? b = some o → H b = none → b ∉ fs → b ∉ ex → h'.get? b = some o
  slot : ∀ b o, h.get? b = some o → H b = none → b ∈ fs → b ∉ ex → ∃ sl, h'.get? b = some { o with slots := sl }
  free : ∀ b o, h.get? b = some o → H b = none → b ∉ ex → H' b = none
  there : ∀ b o, h.get? b = some o → b ∉ ex → ∃ o', h'.get? b = some o'
  tups : ∀ b xs, H b = some (.tup xs) → H' b = some (.tup xs)
  frzs : ∀ b o u, H b = some (.frz o u) → H' b = some (.frz o u)
  tbls : ∀ b ps, H b = some (.tbl ps) → ∃ more, H' b = some (.tbl (ps ++ more))
section
variable {fs fs' ex ex' : List Addr} {H H1 H2 : Hp} {h h1 h2 h' : Heap} {a x e : Addr} {o : HO}
theorem Un.any (u : Un fs ex H H1 h h1) {b : Addr} {ob : Obj} (q : h.get? b = some ob) (n : H b = none) (hx : b ∉ ex) : ∃ sl, h1.get? b = some { ob with slots := sl } := by
  by_cases hb : b ∈ fs
  · exact u.slot b ob q n hb hx
  · exact ⟨ob.slots, u.keep b ob q n hb hx⟩
theorem Un.trans (a : Un fs ex H H1 h h1) (b : Un fs ex H1 H2 h1 h2) : Un fs ex H H2 h h2 where
  keep := fun c ob q n hc hx => b.keep c ob (a.keep c ob q n hc hx) (a.free c ob q n hx) hc hx
  slot := fun c ob q n hc hx => by
    obtain ⟨sl, e1⟩ := a.slot c ob q n hc hx
    obtain ⟨sl', e2⟩ := b.slot c _ e1 (a.free c ob q n hx) hc hx
    exact ⟨sl', e2⟩
  free := fun c ob q n hx => by
    obtain ⟨o', e1⟩ := a.there c ob q hx
    exact b.free c o' e1 (a.free c ob q n hx) hx
  there := fun c ob q hx => by
    obtain ⟨o', e1⟩ := a.there c ob q hx
    exact b.there c o' e1 hx
  tups := fun c xs q => b.tups c xs (a.tups c xs q)
  frzs := fun c ob xs q => b.frzs c ob xs (a.frzs c ob xs q)
  tbls := fun c ps q => by
    obtain ⟨m1, e1⟩ := a.tbls c ps q
    obtain ⟨m2, e2⟩ := b.tbls c _ e1
    exact ⟨m1 ++ m2, by rw [e2, Array.append_assoc]⟩
theorem Un.kept (k : ∀ b u, h.get? b = some u → h'.get? b = some u) : Un fs ex H H h h' :=
  ⟨fun b ob q _ _ _ => k b ob q, fun b ob q _ _ _ => ⟨ob.slots, k b ob q⟩, fun _ _ _ n _ => n, fun b ob q _ => ⟨ob, k b ob q⟩, fun _ _ q => q, fun _ _ _ q => q, fun _ ps q => ⟨#[], by rw [q]; simp⟩⟩
theorem Un.refl : Un fs ex H H h h := Un.kept fun _ _ q => q
theorem Un.laid (k : ∀ b u, h.get? b = some u → h'.get? b = some u) (hp : h.objs.size ≤ a) (hn : H a = none) : Un fs ex H (upd H a o) h h' where
  keep := fun b u q _ _ _ => k b u q
  slot := fun b u q _ _ _ => ⟨u.slots, k b u q⟩
  free := fun b u q n _ => by rw [upd_ne (Nat.ne_of_lt (Nat.lt_of_lt_of_le (Heap.lt_size q) hp))]; exact n
  there := fun b u q _ => ⟨u, k b u q⟩
  tups := fun b xs q => by rw [upd_ne (ne_of_none q hn)]; exact q
  frzs := fun b u xs q => by rw [upd_ne (ne_of_none q hn)]; exact q
  tbls := fun b ps q => ⟨#[], by rw [upd_ne (ne_of_none q hn), q]; simp⟩
theorem Un.write (mu : Mut (H x)) (he : e = x ∨ H e = some (.own x)) (k : ∀ b u, b ≠ e → h.get? b = some u → h'.get? b = some u) (heo : ∃ u, h'.get? e = some u) : Un fs ex H (upd H x o) h h' := by
  have hx : ∀ b, H b = none → b ≠ x := fun b n z => by subst z; rw [n] at mu; exact mu
  have hb : ∀ b, H b = none → b ≠ e := fun b n z => by
    subst z
    rcases he with r | r
    · exact hx b n r
    · rw [n] at r; cases r
  have hm : ∀ b u, H b = some u → ¬ Mut (some u) → b ≠ x := fun b u q nm z => by subst z; rw [q] at mu; exact nm mu
  refine ⟨fun b u q n _ _ => k b u (hb b n) q, fun b u q n _ _ => ⟨u.slots, k b u (hb b n) q⟩, fun b u q n _ => by rw [upd_ne (hx b n)]; exact n, fun b u q _ => ?_,
    fun b xs q => by rw [upd_ne (hm b _ q fun z => z)]; exact q, fun b u xs q => by rw [upd_ne (hm b _ q fun z => z)]; exact q, fun b ps q => ⟨#[], by rw [upd_ne (hm b _ q fun z => z), q]; simp⟩⟩
  by_cases hbe : b = e
  · subst hbe; exact heo
  · exact ⟨u, k b u hbe q⟩
theorem Un.mono (u : Un fs ex H H1 h h1) (hs : ∀ b ∈ fs, b ∈ fs') (hx : ∀ b ∈ ex, b ∈ ex') : Un fs' ex' H H1 h h1 :=
  ⟨fun b ob q n hb he => u.keep b ob q n (fun z => hb (hs b z)) fun z => he (hx b z), fun _ _ q n _ he => u.any q n fun z => he (hx _ z), fun b ob q n he => u.free b ob q n fun z => he (hx b z), fun b ob q he => u.there b ob q fun z => he (hx b z), u.tups, u.frzs, u.tbls⟩
end

/-! ### the heap without what is tracked -/
def trk (h : Heap) (H : Hp) : List Addr := (List.range h.objs.size).filter fun a => (H a).isSome
def hidT (h : Heap) (H : Hp) : Heap := PySem.W.hideAll h (trk h H)
theorem hidT_size (h : Heap) (H : Hp) : (hidT h H).objs.size = h.objs.size := PySem.W.hideAll_size _ _
theorem hidT_get {h : Heap} {H : Hp} {b : Addr} {o : Obj} (e : h.get? b = some o) (n : H b = none) : (hidT h H).get? b = some o :=
  PySem.W.hideAll_get _ e fun hm => by
    have q : (H b).isSome = true := (List.mem_filter.mp hm).2
    rw [n] at q; simp at q
theorem of_hidT {h : Heap} {H : Hp} {b : Addr} {o : Obj} (e : (hidT h H).get? b = some o) : h.get? b = some o ∧ H b = none := by
  have e' : h.get? b = some o := PySem.W.of_hideAll (trk h H) e
  refine ⟨e', ?_⟩
  cases q : H b with
  | none => rfl
  | some x =>
    have hm : b ∈ trk h H := List.mem_filter.mpr ⟨List.mem_range.mpr (Heap.lt_size e'), by simp [q]⟩
    have z : (hidT h H).get? b = none := PySem.W.hideAll_none (trk h H) hm
    rw [z] at e; cases e

/-! ### OpenK's ledger, filled with every new object but one -/
def allNews (g h : Heap) (L : Addr) : List (Addr × Obj) := (List.range h.objs.size).filterMap fun a => if a = L ∨ (g.get? a).isSome = true then none else (h.get? a).map fun o => (a, o)
theorem mem_allNews {g h : Heap} {L a : Addr} {o : Obj} (h1 : a ≠ L) (h2 : g.get? a = none) (h3 : h.get? a = some o) : (a, o) ∈ allNews g h L :=
  List.mem_filterMap.mpr ⟨a, List.mem_range.mpr (Heap.lt_size h3), by simp [h1, h2, h3]⟩
theorem of_mem_allNews {g h : Heap} {L : Addr} {p : Addr × Obj} (hp : p ∈ allNews g h L) : p.1 ≠ L ∧ g.get? p.1 = none ∧ h.get? p.1 = some p.2 := by
  obtain ⟨b, _, e⟩ := List.mem_filterMap.mp hp
  split at e
  · cases e
  · rename_i hn
    cases q : h.get? b with
    | none => rw [q] at e; simp at e
    | some u =>
      rw [q] at e
      simp only [Option.map_some, Option.some.injEq] at e
      subst e
      refine ⟨fun z => hn (.inl z), ?_, q⟩
      show g.get? b = none
      cases r : g.get? b with
      | none => rfl
      | some v => exact (hn (.inr (by simp [r]))).elim
def rest (g h : Heap) (L d : Addr) : List (Addr × Obj) := (allNews g h L).filter fun p => decide (p.1 ≠ d)
theorem news_all {g h : Heap} {L : Addr} : News g L h (allNews g h L) := fun p hp => let ⟨a, b, c⟩ := of_mem_allNews hp; ⟨c, a, b⟩
end L2

namespace L2
open PySem PySem.Spec PyProof.Rows

/-- the module's facts, over the base: the heap at the law's entry without what is tracked there -/
structure Mod (K : PySem.W.Frag) (mg : Str → Option Value) (base : Heap) : Prop where
  kin : K.In base
  glob : base.Ns mainGlobals mg
  blt : ∃ mb, base.Ns builtinsNs mb ∧ ∀ x : Str, x ≠ "__name__" → mb x = bootBuiltins x
  nolimit : base.NoLimit

/-- the context: a def's body (or a comprehension's block) running. base: fixed through the whole law; s₀, H₀: the entry; outer: the frames whose slots others may change (a def's callers); stack: all frames that run;
   ex: iterators that were made ahead of the entry and are walked here (a comprehension's); fn: the names whose cells were made at the entry (a def: all; a comprehension's block: its own); calm: not within an except suite; pn: pins that every state bears; xe: what is wanted of an exception that leaves the code -/
structure Cx where
  prog : Program
  w : World
  K : PySem.W.Frag
  mg : Str → Option Value
  base : Heap
  A : Around
  N : List Str
  s₀ : Shared
  H₀ : Hp
  env : Env
  outer : List Env
  stack : List Env
  ex : List Addr
  fn : Str → Bool
  calm : Bool
  pn : List (Addr × Obj)
  xe : Value → Shared → Prop
/-- the callers' frames -/
def frs (l : List Env) : List Addr := l.filterMap (·.frame)
abbrev Cx.fs (X : Cx) : List Addr := frs X.outer

def Vis (sc : Scope) (x : Str) : Prop := sc.names.lookup x = some .local ∨ sc.names.lookup x = some .cell ∨ sc.names.lookup x = some .free
def Loc (sc : Scope) (x : Str) : Prop := sc.names.lookup x = some .local ∨ sc.names.lookup x = some .cell
def Look (env : Env) (h : Heap) (m : Str → Option Value) (x : Str) (u : Value) : Prop :=
  (env.kindOf x = some .local ∧ m x = some u) ∨ ((env.kindOf x = some .cell ∨ env.kindOf x = some .free) ∧ ∃ c, env.cells.lookup x = some c ∧ h.IsCell c (some u))

structure Cx.Ok (X : Cx) : Prop where
  mod : Mod X.K X.mg X.base
  kind : X.env.scope.kind = .function
  glob : X.env.globals = mainGlobals
  blt : X.env.builtins = builtinsNs
  above : X.s₀.heap.objs.size ≤ X.env.locals
  inj : ∀ x y c, X.env.cells.lookup x = some c → X.env.cells.lookup y = some c → x = y
  has : ∀ x, (X.env.kindOf x = some .cell ∨ X.env.kindOf x = some .free) → ∃ c, X.env.cells.lookup x = some c
  cab : ∀ x c, X.fn x = true → X.env.cells.lookup x = some c → X.s₀.heap.objs.size ≤ c
  hd : X.calm = true → X.A.handled = none
  frames : X.A.frames = some X.stack
  stk : X.stack = X.outer ∨ (X.stack = X.env :: X.outer ∧ X.env.frame = some X.env.locals)
  exf : ∀ b ∈ X.ex, b ≠ X.env.locals ∧ ∀ x c, X.env.cells.lookup x = some c → c ≠ b
  bs : ∀ b o, X.base.get? b = some o → X.s₀.heap.get? b = some o ∧ X.H₀ b = none
  bsz : X.base.objs.size ≤ X.s₀.heap.objs.size
  noex : ∀ b o, X.base.get? b = some o → b ∉ X.ex
  exfs : ∀ b ∈ X.ex, b ∉ X.fs
  funs : X.s₀.heap.FunFrames X.base X.outer
  frf : ∀ b ∈ X.fs, X.H₀ b = none

structure Inv (X : Cx) (pins : List (Addr × Obj)) (σ : List (Option V)) (H : Hp) (s : Shared) : Prop where
  ok : X.Ok
  os : s.os = X.s₀.os
  bare : AllBare s.gens
  base : Un X.fs X.ex X.H₀ H X.s₀.heap s.heap
  loc : ∃ m, s.heap.Ns X.env.locals m ∧ ∀ (i : Nat) (x : Str) (v : V), X.N[i]? = some x → σ[i]? = some (some v) → Vis X.env.scope x → ∃ u, RelV v u ∧ Look X.env s.heap m x u
  cell : ∀ x c, X.env.cells.lookup x = some c → ∃ v, s.heap.IsCell c v
  free : H X.env.locals = none
  freeC : ∀ x c, X.env.cells.lookup x = some c → H c = none
  pin : ∀ p ∈ X.pn ++ pins, s.heap.get? p.1 = some p.2 ∧ H p.1 = none ∧ p.1 ≠ X.env.locals ∧ p.1 ∉ X.fs ∧ ∀ v, p.2.data ≠ .cell v
  hok : HOk X.prog X.w H s.heap
  len : σ.length = X.N.length

section
variable {X : Cx} {pins : List (Addr × Obj)} {σ : List (Option V)} {H H' : Hp} {s : Shared} {h' : Heap}

theorem Cx.Ok.nofr (ok : X.Ok) {b : Addr} {o : Obj} (e : X.base.get? b = some o) : b ∉ X.fs := fun hb => by
  have := (ok.funs.mem hb).1
  rw [e] at this; cases this
theorem Inv.bs (I : Inv X pins σ H s) : ∀ b o, X.base.get? b = some o → s.heap.get? b = some o ∧ H b = none := fun b o e =>
  ⟨I.base.keep b o (I.ok.bs b o e).1 (I.ok.bs b o e).2 (I.ok.nofr e) (I.ok.noex b o e), I.base.free b o (I.ok.bs b o e).1 (I.ok.bs b o e).2 (I.ok.noex b o e)⟩
theorem Inv.bk (I : Inv X pins σ H s) : ∀ b o, X.base.get? b = some o → s.heap.get? b = some o := fun b o e => (I.bs b o e).1
theorem Inv.mod (I : Inv X pins σ H s) : Mod X.K X.mg X.base := I.ok.mod
theorem Inv.kIn (I : Inv X pins σ H s) : X.K.In s.heap := I.ok.mod.kin.keeps I.bk
theorem Inv.nolimit (I : Inv X pins σ H s) : s.heap.NoLimit := I.ok.mod.nolimit.keeps I.bk
/-- the frame over the base: for OpenK's rules (K.In X.base is I.mod.kin) -/
theorem Inv.fr (I : Inv X pins σ H s) : ∃ m, Fr X.base X.env.locals s.heap m :=
  let ⟨m, hn, _⟩ := I.loc
  ⟨m, hn, I.bk, Nat.le_trans I.ok.bsz I.ok.above⟩
theorem Inv.lt (I : Inv X pins σ H s) : X.env.locals < s.heap.objs.size := let ⟨_, hn, _⟩ := I.loc; hn.lt
theorem Inv.sz (I : Inv X pins σ H s) : X.s₀.heap.objs.size ≤ s.heap.objs.size := Nat.le_trans I.ok.above (Nat.le_of_lt I.lt)
theorem Inv.nofs (I : Inv X pins σ H s) {a : Addr} (h : s.heap.objs.size ≤ a) : a ∉ X.fs := fun hb => by
  obtain ⟨_, o, ho, _⟩ := I.ok.funs.mem hb
  exact absurd (Nat.lt_of_lt_of_le (Heap.lt_size ho) (Nat.le_trans I.sz h)) (Nat.lt_irrefl _)
theorem Inv.cne (I : Inv X pins σ H s) : ∀ x c, X.env.cells.lookup x = some c → c ≠ X.env.locals := fun x c e z => by
  obtain ⟨v, o, ho, hd⟩ := I.cell x c e
  obtain ⟨m, ⟨o', es, ep, ho', hd', _⟩, _⟩ := I.loc
  rw [z, ho'] at ho; cases ho; rw [hd'] at hd; cases hd
theorem Inv.funs (I : Inv X pins σ H s) : s.heap.FunFrames X.base X.outer := by
  have all : ∀ (l : List Env), (∀ b ∈ frs l, b ∈ X.fs) → X.s₀.heap.FunFrames X.base l → s.heap.FunFrames X.base l := by
    intro l
    induction l with
    | nil => intro _ _; trivial
    | cons env r ih =>
      intro hs hl
      obtain ⟨hk, ⟨L, o, hf, hn, ho, hd⟩, hr⟩ := hl
      have hL : L ∈ X.fs := hs L (by unfold frs; rw [List.filterMap_cons, hf]; exact List.mem_cons_self)
      obtain ⟨sl, e⟩ := I.base.slot L o ho (I.ok.frf L hL) hL fun z => I.ok.exfs L z hL
      exact ⟨hk, ⟨L, _, hf, hn, e, hd⟩, ih (fun b hb => hs b (by unfold frs; rw [List.filterMap_cons, hf]; exact List.mem_cons_of_mem _ hb)) hr⟩
  exact all X.outer (fun _ hb => hb) I.ok.funs

/-- the frames that run, for a call -/
theorem Inv.stack (I : Inv X pins σ H s) : s.heap.FunFrames X.base X.stack := by
  rcases I.ok.stk with e | ⟨e, hf⟩
  · rw [e]; exact I.funs
  · rw [e]
    obtain ⟨m, hn, _⟩ := I.loc
    refine .cons (by rw [I.ok.kind]; decide) hf hn ?_ I.funs
    exact Heap.get?_none_of_le (Nat.le_trans I.ok.bsz I.ok.above)
theorem Inv.stkSub (I : Inv X pins σ H s) : ∀ b ∈ frs X.stack, b ∈ X.env.locals :: X.fs := fun b hb => by
  rcases I.ok.stk with e | ⟨e, hf⟩
  · rw [e] at hb; exact List.mem_cons_of_mem _ hb
  · rw [e] at hb
    unfold frs at hb
    rw [List.filterMap_cons, hf] at hb
    exact hb
theorem Inv.stkFree (I : Inv X pins σ H s) : ∀ b ∈ frs X.stack, H b = none := fun b hb => by
  rcases List.mem_cons.mp (I.stkSub b hb) with e | hb
  · rw [e]; exact I.free
  · obtain ⟨_, o, ho, _⟩ := I.ok.funs.mem hb
    exact I.base.free b o ho (I.ok.frf b hb) fun z => I.ok.exfs b z hb

/-- THE STEP: the untracked objects but the frame and the records at ch are kept (the callers' frames up to slots), the frame's map is kept, the new abstract heap is held -/
theorem Inv.step {g' : Array GenState} {t' : Nat} {d' : Drawn} {ch : List Addr} (I : Inv X pins σ H s)
    (hch : ∀ b ∈ ch, (b ∈ X.ex ∨ X.s₀.heap.objs.size ≤ b) ∧ b ≠ X.env.locals ∧ (∀ x c, X.env.cells.lookup x = some c → c ≠ b) ∧ ∀ p ∈ X.pn ++ pins, p.1 ≠ b)
    (keep : ∀ b o, b ≠ X.env.locals → b ∉ X.fs → b ∉ ch → s.heap.get? b = some o → H b = none → h'.get? b = some o)
    (slot : ∀ b o, b ≠ X.env.locals → b ∈ X.fs → b ∉ ch → s.heap.get? b = some o → H b = none → ∃ sl, h'.get? b = some { o with slots := sl }) (free : ∀ b o, b ∉ ch → s.heap.get? b = some o → H b = none → H' b = none)
    (there : ∀ b o, b ∉ ch → s.heap.get? b = some o → ∃ o', h'.get? b = some o')
    (tups : ∀ b xs, H b = some (.tup xs) → H' b = some (.tup xs)) (frzs : ∀ b o u, H b = some (.frz o u) → H' b = some (.frz o u)) (tbls : ∀ b ps, H b = some (.tbl ps) → ∃ more, H' b = some (.tbl (ps ++ more)))
    (ns : ∀ m, s.heap.Ns X.env.locals m → h'.Ns X.env.locals m) (hok : HOk X.prog X.w H' h') (hg : AllBare g') :
    Inv X pins σ H' { s with heap := h', gens := g', drawn := d', toks := t' } := by
  have neL : ∀ b o, X.s₀.heap.get? b = some o → b ≠ X.env.locals := fun b o e => Nat.ne_of_lt (Nat.lt_of_lt_of_le (Heap.lt_size e) I.ok.above)
  have neC : ∀ b o, X.s₀.heap.get? b = some o → b ∉ X.ex → b ∉ ch := fun b o e hx hb => by
    rcases (hch b hb).1 with z | z
    · exact hx z
    · exact absurd (Nat.lt_of_lt_of_le (Heap.lt_size e) z) (Nat.lt_irrefl _)
  have cellK : ∀ x c, X.env.cells.lookup x = some c → ∀ v, s.heap.IsCell c v → h'.IsCell c v := fun x c e v ⟨o, ho, hd⟩ => by
    have nch : c ∉ ch := fun z => (hch c z).2.2.1 x c e rfl
    by_cases hc : c ∈ X.fs
    · obtain ⟨sl, q⟩ := slot c o (I.cne x c e) hc nch ho (I.freeC x c e)
      exact ⟨_, q, hd⟩
    · exact ⟨o, keep c o (I.cne x c e) hc nch ho (I.freeC x c e), hd⟩
  refine ⟨I.ok, I.os, hg, ⟨fun b o e n hb hx => ?_, fun b o e n hb hx => ?_, fun b o e n hx => ?_, fun b o e hx => ?_, fun b xs e => tups b xs (I.base.tups b xs e), fun b o xs e => frzs b o xs (I.base.frzs b o xs e), fun b ps e => ?_⟩, ?_, fun x c e => ?_, ?_, fun x c e => ?_, fun p hp => ?_, hok, I.len⟩
  · exact keep b o (neL b o e) hb (neC b o e hx) (I.base.keep b o e n hb hx) (I.base.free b o e n hx)
  · obtain ⟨sl, e1⟩ := I.base.slot b o e n hb hx
    obtain ⟨sl', e2⟩ := slot b _ (neL b o e) hb (neC b o e hx) e1 (I.base.free b o e n hx)
    exact ⟨sl', e2⟩
  · obtain ⟨o', e1⟩ := I.base.there b o e hx
    exact free b o' (neC b o e hx) e1 (I.base.free b o e n hx)
  · obtain ⟨o', e1⟩ := I.base.there b o e hx
    exact there b o' (neC b o e hx) e1
  · obtain ⟨m1, e1⟩ := I.base.tbls b ps e
    obtain ⟨m2, e2⟩ := tbls b _ e1
    exact ⟨m1 ++ m2, by rw [e2, Array.append_assoc]⟩
  · obtain ⟨m, hn, hl⟩ := I.loc
    refine ⟨m, ns m hn, fun i x v e1 e2 e3 => ?_⟩
    obtain ⟨u, r, l⟩ := hl i x v e1 e2 e3
    refine ⟨u, r, ?_⟩
    rcases l with l | ⟨k, c, e, z⟩
    · exact .inl l
    · exact .inr ⟨k, c, e, cellK x c e _ z⟩
  · obtain ⟨v, z⟩ := I.cell x c e
    exact ⟨v, cellK x c e v z⟩
  · obtain ⟨m, ⟨o, _, _, ho, _⟩, _⟩ := I.loc
    exact free _ o (fun z => (hch _ z).2.1 rfl) ho I.free
  · obtain ⟨v, o, ho, hd⟩ := I.cell x c e
    exact free c o (fun z => (hch c z).2.2.1 x c e rfl) ho (I.freeC x c e)
  · obtain ⟨e, n, ne, nf, d⟩ := I.pin p hp
    have nch : p.1 ∉ ch := fun z => (hch p.1 z).2.2.2 p hp rfl
    exact ⟨keep p.1 p.2 ne nf nch e n, free p.1 p.2 nch e n, ne, nf, d⟩
/-- .. where the frame's own object is kept too -/
theorem Inv.un {t' : Nat} (I : Inv X pins σ H s) (u : Un X.fs [] H H' s.heap h') (hok : HOk X.prog X.w H' h') : Inv X pins σ H' { s with heap := h', toks := t' } := by
  obtain ⟨m, ⟨o, es, ep, ho, r⟩, _⟩ := id I.loc
  obtain ⟨sl, hL⟩ := u.any ho I.free (by simp)
  exact I.step (g' := s.gens) (d' := s.drawn) (ch := []) (fun _ z => nomatch z) (fun b o _ hb _ e n => u.keep b o e n hb (by simp)) (fun b o _ hb _ e n => u.slot b o e n hb (by simp)) (fun b o _ e n => u.free b o e n (by simp)) (fun b o _ e => u.there b o e (by simp)) u.tups u.frzs u.tbls (fun m' hm => by
    obtain ⟨o', es', ep', ho', r'⟩ := hm
    rw [ho] at ho'; cases ho'
    exact ⟨_, es', ep', hL, r'⟩) hok I.bare
/-- behind a call (or a comprehension's block): the slots of this frame may have changed too, the records at ch may have turned -/
theorem Inv.call {g' : Array GenState} {t' : Nat} {d' : Drawn} {ch : List Addr} (I : Inv X pins σ H s) (u : Un (frs X.stack) ch H H' s.heap h') (hok : HOk X.prog X.w H' h') (hg : AllBare g')
    (hch : ∀ b ∈ ch, (b ∈ X.ex ∨ X.s₀.heap.objs.size ≤ b) ∧ b ≠ X.env.locals ∧ (∀ x c, X.env.cells.lookup x = some c → c ≠ b) ∧ ∀ p ∈ X.pn ++ pins, p.1 ≠ b) :
    Inv X pins σ H' { s with heap := h', gens := g', drawn := d', toks := t' } := by
  obtain ⟨m, ⟨o, es, ep, ho, r⟩, _⟩ := id I.loc
  obtain ⟨sl, hL⟩ := u.any ho I.free fun z => (hch _ z).2.1 rfl
  exact I.step (ch := ch) hch (fun b o hL hb hc e n => u.keep b o e n (fun z => (List.mem_cons.mp (I.stkSub b z)).elim hL hb) hc) (fun b o _ _ hc e n => u.any e n hc) (fun b o hc e n => u.free b o e n hc) (fun b o hc e => u.there b o e hc) u.tups u.frzs u.tbls (fun m' hm => by
    obtain ⟨o', es', ep', ho', r'⟩ := hm
    rw [ho] at ho'; cases ho'
    exact ⟨_, es', ep', hL, r'⟩) hok hg
/-- an untracked record of ours (an iterator) has turned -/
theorem Inv.turned {t' : Nat} {it : Addr} (I : Inv X pins σ H s) (k : ∀ b o, b ≠ it → s.heap.get? b = some o → h'.get? b = some o) (hn : H it = none) (hL : it ≠ X.env.locals)
    (h1 : it ∈ X.ex ∨ X.s₀.heap.objs.size ≤ it) (h2 : ∀ x c, X.env.cells.lookup x = some c → c ≠ it) (h3 : ∀ p ∈ X.pn ++ pins, p.1 ≠ it) : Inv X pins σ H { s with heap := h', toks := t' } := by
  have nit : ∀ b u, H b = some u → b ≠ it := fun b u e z => by rw [z, hn] at e; cases e
  refine I.step (g' := s.gens) (d' := s.drawn) (ch := [it]) (fun b hb => ?_) (fun b o _ _ hc e _ => k b o (fun z => hc (by simp [z])) e) (fun b o _ _ hc e _ => ⟨o.slots, k b o (fun z => hc (by simp [z])) e⟩) (fun _ _ _ _ n => n)
    (fun b o hc e => ⟨o, k b o (fun z => hc (by simp [z])) e⟩) (fun _ _ e => e) (fun _ _ _ e => e) (fun b ps e => ⟨#[], by rw [e]; simp⟩) (fun m hm => ?_) (fun b u e => ?_) I.bare
  · have e : b = it := by simpa using hb
    subst e
    exact ⟨h1, hL, h2, h3⟩
  · obtain ⟨o, es, ep, ho, r⟩ := hm
    exact ⟨o, es, ep, k _ o (Ne.symm hL) ho, r⟩
  · refine (I.hok b u e).stay (fun c v hc q => k c v ?_ q) (fun _ q => q) fun _ _ q => q
    rcases hc with z | z
    · rw [z]; exact nit b u e
    · exact nit c _ z
theorem Inv.tok (I : Inv X pins σ H s) (t : Nat) : Inv X pins σ H { s with toks := t } := I.un (h' := s.heap) (t' := t) Un.refl I.hok
/-- all objects kept -/
theorem Inv.kept {t' : Nat} (I : Inv X pins σ H s) (k : ∀ b u, s.heap.get? b = some u → h'.get? b = some u) : Inv X pins σ H { s with heap := h', toks := t' } := I.un (Un.kept k) (I.hok.kept k)
/-- a new object laid and tracked -/
theorem Inv.laid {a : Addr} {o : HO} {t' : Nat} (I : Inv X pins σ H s) (k : ∀ b u, s.heap.get? b = some u → h'.get? b = some u) (hp : s.heap.objs.size ≤ a) (new : ObjOk X.prog X.w (upd H a o) h' a o) :
    Inv X pins σ (upd H a o) { s with heap := h', toks := t' } := I.un (Un.laid k hp (I.hok.fresh hp)) (I.hok.laid k hp new)
/-- an object written -/
theorem Inv.write {x e : Addr} {o : HO} {t' : Nat} (I : Inv X pins σ H s) (mu : Mut (H x)) (he : e = x ∨ H e = some (.own x)) (k : ∀ b u, b ≠ e → s.heap.get? b = some u → h'.get? b = some u) (heo : ∃ u, h'.get? e = some u)
    (new : ObjOk X.prog X.w (upd H x o) h' x o) : Inv X pins σ (upd H x o) { s with heap := h', toks := t' } := I.un (Un.write mu he k heo) (I.hok.write mu he k heo new)
/-- forgetting slots, pins -/
theorem Inv.weak {σ' : List (Option V)} (I : Inv X pins σ H s) (hl : σ'.length = σ.length) (w : ∀ (i : Nat) v, σ'[i]? = some (some v) → σ[i]? = some (some v)) : Inv X pins σ' H s :=
  ⟨I.ok, I.os, I.bare, I.base, let ⟨m, hn, hl'⟩ := I.loc; ⟨m, hn, fun i x v e1 e2 e3 => hl' i x v e1 (w i v e2) e3⟩, I.cell, I.free, I.freeC, I.pin, I.hok, hl.trans I.len⟩
theorem Inv.pins_of {pins' : List (Addr × Obj)} (I : Inv X pins σ H s) (h : ∀ p ∈ pins', s.heap.get? p.1 = some p.2 ∧ H p.1 = none ∧ p.1 ≠ X.env.locals ∧ p.1 ∉ X.fs ∧ ∀ v, p.2.data ≠ .cell v) : Inv X pins' σ H s :=
  ⟨I.ok, I.os, I.bare, I.base, I.loc, I.cell, I.free, I.freeC, fun p hp => (List.mem_append.mp hp).elim (fun z => I.pin p (List.mem_append_left _ z)) (h p), I.hok, I.len⟩

theorem nodup_ix {N : List Str} (hN : N.Nodup) {i j : Nat} {x : Str} (a : N[i]? = some x) (b : N[j]? = some x) : i = j := by
  obtain ⟨h1, e1⟩ := List.getElem?_eq_some_iff.mp a
  obtain ⟨h2, e2⟩ := List.getElem?_eq_some_iff.mp b
  exact (List.getElem_inj hN).mp (e1.trans e2.symm)

/-- a name is stored; what changed -/
theorem store_ok2 {M : Model} {A : Around} {E : Value → Shared → Prop} {i : Nat} {x : Str} {v : V} {u : Value} {Q : Unit → Shared → Prop} (I : Inv X pins σ H s) (hN : X.N.Nodup) (hi : X.N[i]? = some x) (hx : Loc X.env.scope x) (r : RelV v u)
    (h : ∀ s', Inv X pins (σ.set i (some v)) H s' → (∃ a, Heap.SameBut a s.heap s'.heap ∧ (a = X.env.locals ∨ X.env.cells.lookup x = some a)) → Q () s') (hf : X.fn x = true ∨ X.env.scope.names.lookup x = some .local := by first | exact .inl rfl | exact .inr rfl | assumption) : wpAny M A (storeName X.env x u) Q E s := by
  obtain ⟨m, hn, hl⟩ := id I.loc
  have hcls : (X.env.scope.kind == .class || (X.env.scope.kind == .module && X.env.locals != X.env.globals)) = false := by rw [I.ok.kind]; rfl
  have hiσ : i < σ.length := by rw [I.len]; exact (List.getElem?_eq_some_iff.mp hi).1
  have cne := I.cne
  have tracked : ∀ {a : Addr} {h' : Heap}, (∃ o, s.heap.get? a = some o ∧ H a = none) → Heap.SameBut a s.heap h' → HOk X.prog X.w H h' := fun {a h'} ha hs b ob e => by
    obtain ⟨_, _, hfree⟩ := ha
    refine (I.hok b ob e).stay (fun c w' hc q => (hs.2 c ?_).trans q) (fun _ q => q) fun _ _ q => q
    rintro rfl
    rcases hc with rfl | hc
    · rw [hfree] at e; cases e
    · rw [hfree] at hc; cases hc
  rcases hx with hk | hk
  · refine wpAny_storeName_local hk hn (fun h' hn' hs => ?_) hcls
    obtain ⟨oL, _, _, hoL, _⟩ := id hn
    refine h _ ⟨I.ok, I.os, I.bare, ⟨fun b o e n hb hx => ?_, fun b o e n hb hx => ?_, I.base.free, fun b o e hx => ?_, I.base.tups, I.base.frzs, I.base.tbls⟩, ⟨_, hn', fun j y v' e1 e2 e3 => ?_⟩, fun y c e => ?_, I.free, I.freeC, fun p hp => ?_, tracked ⟨oL, hoL, I.free⟩ hs, by simpa using I.len⟩ ⟨_, hs, .inl rfl⟩
    · exact (hs.2 b (Nat.ne_of_lt (Nat.lt_of_lt_of_le (Heap.lt_size e) I.ok.above))).trans (I.base.keep b o e n hb hx)
    · obtain ⟨sl, e1⟩ := I.base.slot b o e n hb hx
      exact ⟨sl, (hs.2 b (Nat.ne_of_lt (Nat.lt_of_lt_of_le (Heap.lt_size e) I.ok.above))).trans e1⟩
    · obtain ⟨o', e1⟩ := I.base.there b o e hx
      exact ⟨o', (hs.2 b (Nat.ne_of_lt (Nat.lt_of_lt_of_le (Heap.lt_size e) I.ok.above))).trans e1⟩
    · by_cases hj : j = i
      · subst hj
        rw [hi] at e1; cases e1
        rw [List.getElem?_set_self hiσ] at e2
        cases e2
        exact ⟨u, r, .inl ⟨hk, by simp⟩⟩
      · rw [List.getElem?_set_ne (Ne.symm hj)] at e2
        obtain ⟨u', r', q⟩ := hl j y v' e1 e2 e3
        refine ⟨u', r', ?_⟩
        rcases q with ⟨k, e⟩ | ⟨k, c, e, z⟩
        · refine .inl ⟨k, ?_⟩
          have : y ≠ x := fun e => hj (nodup_ix hN e1 (e ▸ hi))
          simp [this, e]
        · exact .inr ⟨k, c, e, z.sameBut hs (cne y c e)⟩
    · obtain ⟨w', z⟩ := I.cell y c e
      exact ⟨w', z.sameBut hs (cne y c e)⟩
    · obtain ⟨e, n, ne, nf, d⟩ := I.pin p hp
      exact ⟨(hs.2 p.1 ne).trans e, n, ne, nf, d⟩
  · have hfn : X.fn x = true := by
      rcases hf with z | z
      · exact z
      · rw [z] at hk; cases hk
    obtain ⟨c, hc⟩ := I.ok.has x (.inl hk)
    obtain ⟨w', z⟩ := I.cell x c hc
    refine wpAny_storeName_cell I.ok.kind hk hc z (fun h' hc' hs => ?_)
    obtain ⟨oc, hoc, hocd⟩ := id z
    refine h { s with heap := h' } ⟨I.ok, I.os, I.bare, ⟨fun b o e n hb hx => ?_, fun b o e n hb hx => ?_, I.base.free, fun b o e hx => ?_, I.base.tups, I.base.frzs, I.base.tbls⟩, ⟨m, hn.sameBut hs (Ne.symm (cne x c hc)), fun j y v' e1 e2 e3 => ?_⟩, fun y c' e => ?_, I.free, I.freeC, fun p hp => ?_, tracked ⟨oc, hoc, I.freeC x c hc⟩ hs, by simpa using I.len⟩ ⟨c, hs, .inr hc⟩
    · exact (hs.2 b (Nat.ne_of_lt (Nat.lt_of_lt_of_le (Heap.lt_size e) (I.ok.cab x c hfn hc)))).trans (I.base.keep b o e n hb hx)
    · obtain ⟨sl, e1⟩ := I.base.slot b o e n hb hx
      exact ⟨sl, (hs.2 b (Nat.ne_of_lt (Nat.lt_of_lt_of_le (Heap.lt_size e) (I.ok.cab x c hfn hc)))).trans e1⟩
    · obtain ⟨o', e1⟩ := I.base.there b o e hx
      exact ⟨o', (hs.2 b (Nat.ne_of_lt (Nat.lt_of_lt_of_le (Heap.lt_size e) (I.ok.cab x c hfn hc)))).trans e1⟩
    · by_cases hj : j = i
      · subst hj
        rw [hi] at e1; cases e1
        rw [List.getElem?_set_self hiσ] at e2
        cases e2
        exact ⟨u, r, .inr ⟨.inl hk, c, hc, hc'⟩⟩
      · rw [List.getElem?_set_ne (Ne.symm hj)] at e2
        obtain ⟨u', r', q⟩ := hl j y v' e1 e2 e3
        refine ⟨u', r', ?_⟩
        rcases q with q | ⟨k, c', e, z'⟩
        · exact .inl q
        · refine .inr ⟨k, c', e, z'.sameBut hs ?_⟩
          rintro rfl
          exact hj (nodup_ix hN e1 (I.ok.inj _ _ _ e hc ▸ hi))
    · by_cases hcc : c' = c
      · subst hcc; exact ⟨_, hc'⟩
      · obtain ⟨w2, z2⟩ := I.cell y c' e
        exact ⟨w2, z2.sameBut hs hcc⟩
    · obtain ⟨e, n, ne, nf, d⟩ := I.pin p hp
      refine ⟨(hs.2 p.1 ?_).trans e, n, ne, nf, d⟩
      intro q
      rw [q, hoc] at e
      have q' : oc = p.2 := Option.some.inj e
      exact d w' (by rw [← q']; exact hocd)
theorem store_ok {M : Model} {A : Around} {E : Value → Shared → Prop} {i : Nat} {x : Str} {v : V} {u : Value} {Q : Unit → Shared → Prop} (I : Inv X pins σ H s) (hN : X.N.Nodup) (hi : X.N[i]? = some x) (hx : Loc X.env.scope x) (r : RelV v u)
    (h : ∀ s', Inv X pins (σ.set i (some v)) H s' → Q () s') (hf : X.fn x = true ∨ X.env.scope.names.lookup x = some .local := by first | exact .inl rfl | exact .inr rfl | assumption) : wpAny M A (storeName X.env x u) Q E s :=
  store_ok2 I hN hi hx r (fun s' I' _ => h s' I') hf
/-- behind a call or a block, the state as it is -/
theorem Inv.call' {s' : Shared} {ch : List Addr} (I : Inv X pins σ H s) (ho : s'.os = s.os) (u : Un (frs X.stack) ch H H' s.heap s'.heap) (hok : HOk X.prog X.w H' s'.heap) (hg : AllBare s'.gens)
    (hch : ∀ b ∈ ch, (b ∈ X.ex ∨ X.s₀.heap.objs.size ≤ b) ∧ b ≠ X.env.locals ∧ (∀ x c, X.env.cells.lookup x = some c → c ≠ b) ∧ ∀ p ∈ X.pn ++ pins, p.1 ≠ b) : Inv X pins σ H' s' := by
  obtain ⟨h', g', d', t', o'⟩ := s'
  have e : o' = s.os := ho
  subst e
  exact I.call (g' := g') (t' := t') (d' := d') u hok hg hch
end

/-! ### the judgements -/
/-- an exception: its class, its own dict's address (where it has one), the abstract heap behind it -/
abbrev XK := Value → Option Addr → Hp → Prop
abbrev St := List (Option V)
abbrev VK := V → Hp → Prop
/-- an expression's reading; a test's; an argument list's -/
abbrev TE := St → Hp → VK → Prop
abbrev TT := St → Hp → (Bool → Hp → Prop) → Prop
abbrev TA := St → Hp → (List V → Hp → Prop) → Prop
/-- what is wanted behind a statement -/
structure Ends where
  nx : St → Hp → Prop
  rt : VK
  bk : St → Hp → Prop := fun _ _ => False
  ct : St → Hp → Prop := fun _ _ => False
abbrev TS := Ends → St → Hp → Prop

def EP (X : Cx) (pins : List (Addr × Obj)) (σ : St) (Q : VK) (u : Value) (s' : Shared) : Prop := ∃ v H', Inv X pins σ H' s' ∧ RelV v u ∧ Q v H'
def TP (X : Cx) (pins : List (Addr × Obj)) (σ : St) (Q : Bool → Hp → Prop) (b : Bool) (s' : Shared) : Prop := ∃ H', Inv X pins σ H' s' ∧ Q b H'
def AP (X : Cx) (pins : List (Addr × Obj)) (σ : St) (Q : List V → Hp → Prop) (us : List Value) (s' : Shared) : Prop := ∃ vs H', Inv X pins σ H' s' ∧ Vals vs us ∧ Q vs H'
def SP (X : Cx) (pins : List (Addr × Obj)) (D : Ends) (f : Flow) (s' : Shared) : Prop :=
  match f with
  | .next => ∃ σ' H', Inv X pins σ' H' s' ∧ D.nx σ' H'
  | .brk => ∃ σ' H', Inv X pins σ' H' s' ∧ D.bk σ' H'
  | .cont => ∃ σ' H', Inv X pins σ' H' s' ∧ D.ct σ' H'
  | .ret u => ∃ v σ' H', Inv X pins σ' H' s' ∧ RelV v u ∧ D.rt v H'

def PE (X : Cx) (e : Expr) (t : TE) : Prop :=
  ∀ (pins : List (Addr × Obj)) (s : Shared) (σ : St) (H : Hp) (Q : VK), Inv X pins σ H s → t σ H Q → wpAny (model X.prog X.w) X.A (eval e X.env) (EP X pins σ Q) X.xe s
def PT (X : Cx) (e : Expr) (t : TT) : Prop :=
  ∀ (pins : List (Addr × Obj)) (s : Shared) (σ : St) (H : Hp) (Q : Bool → Hp → Prop), Inv X pins σ H s → t σ H Q → wpAny (model X.prog X.w) X.A (isTrue e X.env (eval e X.env)) (TP X pins σ Q) X.xe s
/-- a test whatever its 'whole' is (and, or) -/
def PW (X : Cx) (e : Expr) (t : TT) : Prop :=
  ∀ (whole : Sem Value) (pins : List (Addr × Obj)) (s : Shared) (σ : St) (H : Hp) (Q : Bool → Hp → Prop), Inv X pins σ H s → t σ H Q → wpAny (model X.prog X.w) X.A (isTrue e X.env whole) (TP X pins σ Q) X.xe s
theorem PW.pt {X : Cx} {e : Expr} {t : TT} (h : PW X e t) : PT X e t := h _
/-- an argument list (no star), from the left -/
def PA (X : Cx) (es : List Expr) (t : TA) : Prop :=
  ∀ (pos : Pos) (pins : List (Addr × Obj)) (s : Shared) (σ : St) (H : Hp) (Q : List V → Hp → Prop), Inv X pins σ H s → t σ H Q → wpAny (model X.prog X.w) X.A (spliced (backTo pos (starEach es X.env))) (AP X pins σ Q) X.xe s
def PS (X : Cx) (st : Stmt) (t : TS) : Prop :=
  ∀ (pins : List (Addr × Obj)) (s : Shared) (σ : St) (H : Hp) (D : Ends), Inv X pins σ H s → t D σ H → wpAny (model X.prog X.w) X.A (exec st X.env) (SP X pins D) X.xe s
def PSs (X : Cx) (st : List Stmt) (t : TS) : Prop :=
  ∀ (pins : List (Addr × Obj)) (s : Shared) (σ : St) (H : Hp) (D : Ends), Inv X pins σ H s → t D σ H → wpAny (model X.prog X.w) X.A (execs st X.env) (SP X pins D) X.xe s
/-- weaken the end -/
theorem thn {α : Type} {t : Sem α} {Q Q' : α → Shared → Prop} {M : Model} {A : Around} {E : Value → Shared → Prop} {s : Shared} (h : wpAny M A t Q E s) (hQ : ∀ a s, Q a s → Q' a s) : wpAny M A t Q' E s := wpAny_mono h hQ fun _ _ x => x
end L2

namespace L2
open PySem PySem.Spec PyProof.Rows
section
variable {X : Cx}

/-! ### names and constants -/
def tVar (i : Nat) : TE := fun σ H Q => ∃ v, σ[i]? = some (some v) ∧ Q v H
def tC (v : V) : TE := fun _ H Q => Q v H
theorem pe_var {i : Nat} {x : Str} {pos : Pos} (hN : X.N[i]? = some x) (hv : Vis X.env.scope x) (hd : (x == ("__debug__" : Str)) = false := by decide) (hcd : (x == ("__classdict__" : Str)) = false := by decide) : PE X (.Name x pos) (tVar i) := by
  intro pins s σ H Q I h
  obtain ⟨v, e, h⟩ := h
  obtain ⟨m, hn, hl⟩ := I.loc
  obtain ⟨u, r, l⟩ := hl i x v hN e hv
  have fin : EP X pins σ Q u s := ⟨v, H, I, r, h⟩
  rcases l with ⟨hk, hm⟩ | ⟨hk, c, hc, hcell⟩
  · exact wpAny_Name (wpAny_loadName_local I.ok.kind hk hn hm fin) hd
  · rcases hk with hk | hk
    · exact wpAny_Name (wpAny_loadName_cell I.ok.kind hk hc hcell fin) hd
    · exact wpAny_Name (wpAny_loadName_free I.ok.kind hk hc hcell fin hcd) hd
theorem pe_int {i j pos} : PE X (.Constant (.int i) j pos) (tC (.int i)) := fun _ _ _ H _ I h => wpAny_Constant_int ⟨.int i, H, I.tok _, ⟨_, rfl⟩, h⟩
theorem pe_bl {b j pos} : PE X (.Constant (.bool b) j pos) (tC (.bl b)) := fun _ _ _ H _ I h => Constant_bool ⟨.bl b, H, I, rfl, h⟩
theorem pe_non {j pos} : PE X (.Constant .none j pos) (tC .non) := fun _ _ _ H _ I h => Constant_none ⟨.non, H, I, rfl, h⟩
theorem pe_str {x j pos} : PE X (.Constant (.str x) j pos) (tC (.str x)) := fun _ _ _ H _ I h => Calls.Constant_str ⟨.str x, H, I.tok _, ⟨_, rfl⟩, h⟩

/-- a global name of the def -/
def Gl (X : Cx) (x : Str) : Prop := X.env.kindOf x = some .globalImplicit
theorem ld_glob {E : Value → Shared → Prop} {pins : List (Addr × Obj)} {s : Shared} {σ : St} {H : Hp} {x : Str} {u : Value} {pos : Pos} {Q : Value → Shared → Prop} (I : Inv X pins σ H s) (hg : Gl X x) (hm : X.mg x = some u) (h : Q u s)
    (hd : (x == ("__debug__" : Str)) = false := by decide) : wpAny (model X.prog X.w) X.A (eval (.Name x pos) X.env) Q E s :=
  Calls.Name_function_global I.ok.kind hg (Calls.loadGlobal_global (by rw [I.ok.glob]; exact I.mod.glob.keeps I.bk) hm h) hd
theorem ld_blt {E : Value → Shared → Prop} {pins : List (Addr × Obj)} {s : Shared} {σ : St} {H : Hp} {x : Str} {u : Value} {pos : Pos} {Q : Value → Shared → Prop} (I : Inv X pins σ H s) (hg : Gl X x) (hm : X.mg x = none) (hv : bootBuiltins x = some u) (h : Q u s)
    (hn : x ≠ "__name__" := by decide) (hd : (x == ("__debug__" : Str)) = false := by decide) : wpAny (model X.prog X.w) X.A (eval (.Name x pos) X.env) Q E s := by
  obtain ⟨mb, h1, h2⟩ := I.mod.blt
  exact Calls.Name_function_global I.ok.kind hg (Calls.loadGlobal_builtin (by rw [I.ok.glob]; exact I.mod.glob.keeps I.bk) hm (by rw [I.ok.blt]; exact h1.keeps I.bk) ((h2 x hn).trans hv) h) hd
/-- a module's constant, a class, a function, as a value -/
theorem pe_glob {x : Str} {v : V} {u : Value} {pos : Pos} (hg : Gl X x) (hm : X.mg x = some u) (r : RelV v u) (hd : (x == ("__debug__" : Str)) = false := by decide) : PE X (.Name x pos) (tC v) :=
  fun _ _ _ H _ I h => ld_glob I hg hm ⟨v, H, I, r, h⟩ hd
theorem pe_bltn {x : Str} {v : V} {u : Value} {pos : Pos} (hg : Gl X x) (hm : X.mg x = none) (hv : bootBuiltins x = some u) (r : RelV v u) (hn : x ≠ "__name__" := by decide) (hd : (x == ("__debug__" : Str)) = false := by decide) : PE X (.Name x pos) (tC v) :=
  fun _ _ _ H _ I h => ld_blt I hg hm hv ⟨v, H, I, r, h⟩ hn hd

/-! ### arithmetic -/
/-- two ints -/
def t2I (ta tb : TE) (k : Int → Int → Hp → Prop) : St → Hp → Prop := fun σ H => ta σ H fun x H1 => tb σ H1 fun y H2 => ∃ i j, x = .int i ∧ y = .int j ∧ k i j H2
def tAdd (ta tb : TE) : TE := fun σ H Q => t2I ta tb (fun i j H2 => Q (.int (i + j)) H2) σ H
def tSub (ta tb : TE) : TE := fun σ H Q => t2I ta tb (fun i j H2 => Q (.int (i - j)) H2) σ H
/-- the left factor below 2^64 -/
def tMul (ta tb : TE) : TE := fun σ H Q => t2I ta tb (fun i j H2 => (-(2 ^ 64) < i ∧ i < 2 ^ 64) ∧ Q (.int (i * j)) H2) σ H
variable {a b : Expr} {ta tb : TE} {pos : Pos}
/-! ### comparisons -/
def PC (X : Cx) (op : CmpOp) (a b : Expr) (t : TE) : Prop :=
  ∀ (pins : List (Addr × Obj)) (s : Shared) (σ : St) (H : Hp) (Q : VK), Inv X pins σ H s → t σ H Q →
    wpAny (model X.prog X.w) X.A (eval a X.env) (fun v s₁ => wpAny (model X.prog X.w) X.A (eval b X.env) (fun u s₂ => wpAny (model X.prog X.w) X.A (compareOp op v u) (EP X pins σ Q) X.xe s₂) X.xe s₁) X.xe s
def tCmp (p : Int → Int → Bool) (ta tb : TE) : TE := fun σ H Q => t2I ta tb (fun i j H2 => Q (.bl (p i j)) H2) σ H
abbrev tLt : TE → TE → TE := tCmp fun i j => decide (i < j)
abbrev tLe : TE → TE → TE := tCmp fun i j => decide (i ≤ j)
abbrev tGt : TE → TE → TE := tCmp fun i j => decide (j < i)
abbrev tGe : TE → TE → TE := tCmp fun i j => decide (j ≤ i)
abbrev tEqI : TE → TE → TE := tCmp fun i j => decide (i = j)
abbrev tNeI : TE → TE → TE := tCmp fun i j => !decide (i = j)
/-- is None -/
def tIsN (ta : TE) : TE := fun σ H Q => ta σ H fun x H1 => Q (.bl (decide (x = .non))) H1
def tNotN (ta : TE) : TE := fun σ H Q => ta σ H fun x H1 => Q (.bl (!decide (x = .non))) H1
/-- a comparison as a value, as a test -/
def tB (t : TE) : TT := fun σ H Q => t σ H fun x H1 => ∃ c, x = .bl c ∧ Q c H1
/-- an expression whose value is a bool, as a test -/
theorem pt_val {e : Expr} {t : TE} (h : PE X e t) (he : ∀ whole, isTrue e X.env whole = (do let v ← whole; standAt e.pos; holding [v] (truthy v)) := by intro _; rfl) : PT X e (tB t) := by
  intro pins s σ H Q I hw
  refine isTrue_plain (thn (h pins s σ H _ I hw) fun v s1 ⟨x, H1, I1, r1, q1⟩ => ?_) (he _)
  obtain ⟨d, rfl, q⟩ := q1
  cases r1
  exact wpAny_truthy_bool ⟨H1, I1, q⟩

/-! ### and, or, not -/
variable {tA tB' : TT} {rest : List Expr}
def tAnd (t u : TT) : TT := fun σ H Q => t σ H fun c H1 => if c = true then u σ H1 Q else Q false H1
def tOr (t u : TT) : TT := fun σ H Q => t σ H fun c H1 => if c = true then Q true H1 else u σ H1 Q
def tNot (t : TT) : TT := fun σ H Q => t σ H fun c H1 => Q (!c) H1
theorem pw_and1 (ha : PT X a tA) : PW X (.BoolOp .And [a] pos) tA := by
  intro wh pins s σ H Q I h
  refine isTrue_and (thn (ha pins s σ H Q I h) fun c s1 e => ?_)
  cases c with
  | true => exact isTrue_and_nil e
  | false => exact e
theorem pw_or1 (ha : PT X a tA) : PW X (.BoolOp .Or [a] pos) tA := by
  intro wh pins s σ H Q I h
  refine isTrue_or (thn (ha pins s σ H Q I h) fun c s1 e => ?_)
  cases c with
  | false => exact isTrue_or_nil e
  | true => exact e
theorem pw_and (ha : PT X a tA) (hb : PW X (.BoolOp .And (b :: rest) pos) tB') : PW X (.BoolOp .And (a :: b :: rest) pos) (tAnd tA tB') := by
  intro wh pins s σ H Q I h
  refine isTrue_and (thn (ha pins s σ H _ I h) fun c s1 ⟨H1, I1, q1⟩ => ?_)
  cases c with
  | true => exact hb wh pins s1 σ H1 Q I1 q1
  | false => exact ⟨H1, I1, q1⟩
theorem pw_or (ha : PT X a tA) (hb : PW X (.BoolOp .Or (b :: rest) pos) tB') : PW X (.BoolOp .Or (a :: b :: rest) pos) (tOr tA tB') := by
  intro wh pins s σ H Q I h
  refine isTrue_or (thn (ha pins s σ H _ I h) fun c s1 ⟨H1, I1, q1⟩ => ?_)
  cases c with
  | true => exact ⟨H1, I1, q1⟩
  | false => exact hb wh pins s1 σ H1 Q I1 q1
theorem pt_not (ha : PT X a tA) : PT X (.UnaryOp .Not a pos) (tNot tA) := by
  intro pins s σ H Q I h
  exact isTrue_not (ha pins s σ H (fun c H1 => Q (!c) H1) I h)
/-- .. as values (bools) -/
def tAndV (ta tb : TE) : TE := fun σ H Q => ta σ H fun x H1 => ∃ c, x = .bl c ∧ if c = true then tb σ H1 Q else Q (.bl false) H1
def tOrV (ta tb : TE) : TE := fun σ H Q => ta σ H fun x H1 => ∃ c, x = .bl c ∧ if c = true then Q (.bl true) H1 else tb σ H1 Q
def tNotV (ta : TE) : TE := fun σ H Q => ta σ H fun x H1 => ∃ c, x = .bl c ∧ Q (.bl (!c)) H1
theorem pe_one {op} {t : TE} (h : PE X a t) : PE X (.BoolOp op [a] pos) t := fun pins s σ H Q I hw => BoolOp_one (h pins s σ H Q I hw)
theorem pe_and (ha : PE X a ta) (hb : PE X (.BoolOp .And (b :: rest) pos) tb) : PE X (.BoolOp .And (a :: b :: rest) pos) (tAndV ta tb) := by
  intro pins s σ H Q I h
  refine BoolOp_and (thn (ha pins s σ H _ I h) fun v s1 ⟨x, H1, I1, r1, q1⟩ => ?_)
  obtain ⟨c, rfl, q1⟩ := q1
  cases r1
  refine wpAny_truthy_bool ?_
  cases c with
  | true => exact hb pins s1 σ H1 Q I1 q1
  | false => exact ⟨.bl false, H1, I1, rfl, q1⟩
theorem pe_not (ha : PE X a ta) : PE X (.UnaryOp .Not a pos) (tNotV ta) := by
  intro pins s σ H Q I h
  refine UnaryOp_ (thn (ha pins s σ H _ I h) fun v s1 ⟨x, H1, I1, r1, q1⟩ => ?_)
  obtain ⟨c, rfl, q1⟩ := q1
  cases r1
  exact not_of (wpAny_truthy_bool ⟨.bl (!c), H1, I1, rfl, q1⟩)
/-- a if t else b -/
def tIf (t : TT) (ta tb : TE) : TE := fun σ H Q => t σ H fun c H1 => if c = true then ta σ H1 Q else tb σ H1 Q
theorem pe_ifExp {c : Expr} (hc : PT X c tA) (ha : PE X a ta) (hb : PE X b tb) : PE X (.IfExp c a b pos) (tIf tA ta tb) := by
  intro pins s σ H Q I h
  refine wpAny_IfExp (thn (hc pins s σ H _ I h) fun d s1 ⟨H1, I1, q1⟩ => ?_)
  cases d with
  | true => exact ha pins s1 σ H1 Q I1 q1
  | false => exact hb pins s1 σ H1 Q I1 q1
end
end L2

namespace L2
open PySem PySem.Spec PyProof.Rows

/-! ### a list, a tuple that is read: tracked, frozen, or an object of the module -/
def SqL (K : PySem.W.Frag) (H : Hp) (a : Addr) (xs : List V) : Prop :=
  Rd H a (.lst xs) ∨
    ∃ (o : Obj) (its : Array Value) (n : Nat), K.lookup a = some o ∧ o.cls = .type "list" ∧ o.dict = none ∧ o.data = .seq its n ∧ its.size ≤ sizeLine ∧ Vals xs its.toList
def SqT (K : PySem.W.Frag) (H : Hp) (a : Addr) (xs : List V) : Prop :=
  Rd H a (.tup xs) ∨
    ∃ (o : Obj) (its : Array Value) (n : Nat), K.lookup a = some o ∧ o.cls = .type "tuple" ∧ o.data = .seq its n ∧ its.size ≤ sizeLine ∧ Vals xs its.toList
def absV : Value → Option V
  | .none => some .non
  | .bool b => some (.bl b)
  | .int i _ => some (.int i)
  | .str x _ => some (.str x)
  | .bytes b _ => some (.byt b)
  | .float b _ => some (.flt b)
  | .ref a => some (.ref a)
  | .type n => some (.ty n)
  | _ => none
theorem RelV.abs {x : V} {u : Value} (r : RelV x u) : absV u = some x := by
  cases x with
  | non => cases r; rfl
  | bl _ => cases r; rfl
  | int _ => obtain ⟨t, rfl⟩ := r; rfl
  | str _ => obtain ⟨t, rfl⟩ := r; rfl
  | byt _ => obtain ⟨t, rfl⟩ := r; rfl
  | flt _ => obtain ⟨t, rfl⟩ := r; rfl
  | ref _ => cases r; rfl
  | ty _ => cases r; rfl
theorem RelV.inj {x y : V} {u : Value} (r : RelV x u) (q : RelV y u) : x = y := Option.some.inj (r.abs.symm.trans q.abs)
theorem Vals.inj : ∀ {xs ys : List V} {us : List Value}, Vals xs us → Vals ys us → xs = ys
  | _, _, _, .nil, .nil => rfl
  | _, _, _, .cons r t, .cons r' t' => by rw [r.inj r', Vals.inj t t']
section
variable {X : Cx} {pins : List (Addr × Obj)} {σ : St} {H : Hp} {s : Shared} {a : Addr} {xs ys : List V}
theorem SqL.of {K : PySem.W.Frag} (h : H a = some (.lst xs)) : SqL K H a xs := .inl (.inl h)
theorem SqT.of {K : PySem.W.Frag} (h : H a = some (.tup xs)) : SqT K H a xs := .inl (.inl h)
theorem Inv.list (I : Inv X pins σ H s) (h : SqL X.K H a xs) : ∃ its : List Value, Vals xs its ∧ PlainL s.heap a its.toArray ∧ xs.length ≤ sizeLine := by
  rcases h with h | ⟨o, its, n, hk, hc, hd, hs, hz, r⟩
  · obtain ⟨z, its, n, r, e⟩ := h.ok I.hok
    exact ⟨its, r, ⟨_, n, e, rfl, rfl, rfl⟩, z⟩
  · refine ⟨its.toList, r, ⟨o, n, I.kIn a o hk, hc, hd, by simpa using hs⟩, ?_⟩
    have e := r.length
    simp only [Array.length_toList] at e
    omega
theorem Inv.tuple (I : Inv X pins σ H s) (h : SqT X.K H a xs) : ∃ its : List Value, Vals xs its ∧ IsTup s.heap a its.toArray ∧ xs.length ≤ sizeLine := by
  rcases h with h | ⟨o, its, n, hk, hc, hs, hz, r⟩
  · obtain ⟨z, its, r, p⟩ := h.ok I.hok
    exact ⟨its, r, p, z⟩
  · refine ⟨its.toList, r, ⟨o, I.kIn a o hk, hc, n, by simpa using hs⟩, ?_⟩
    have e := r.length
    simp only [Array.length_toList] at e
    omega
theorem Inv.list_inj (I : Inv X pins σ H s) (h : SqL X.K H a xs) (h' : SqL X.K H a ys) : xs = ys := by
  obtain ⟨its, r, ⟨o, n, e, _, _, d⟩, _⟩ := I.list h
  obtain ⟨its', r', ⟨o', n', e', _, _, d'⟩, _⟩ := I.list h'
  rw [e] at e'; cases e'
  rw [d] at d'
  injection d' with d1 _
  have : its = its' := by simpa using congrArg Array.toList d1
  subst this
  exact r.inj r'
end

/-! ### another wish about exceptions -/
abbrev Cx.wish (X : Cx) (E : Value → Shared → Prop) : Cx := { X with xe := E }
/-- no exception leaves -/
abbrev Cx.nox (X : Cx) : Cx := X.wish fun _ _ => False
theorem Cx.Ok.wish {X : Cx} (ok : X.Ok) (E : Value → Shared → Prop) : (X.wish E).Ok :=
  ⟨ok.mod, ok.kind, ok.glob, ok.blt, ok.above, ok.inj, ok.has, ok.cab, ok.hd, ok.frames, ok.stk, ok.exf, ok.bs, ok.bsz, ok.noex, ok.exfs, ok.funs, ok.frf⟩
theorem Cx.Ok.unwish {X : Cx} {E : Value → Shared → Prop} (ok : (X.wish E).Ok) : X.Ok :=
  ⟨ok.mod, ok.kind, ok.glob, ok.blt, ok.above, ok.inj, ok.has, ok.cab, ok.hd, ok.frames, ok.stk, ok.exf, ok.bs, ok.bsz, ok.noex, ok.exfs, ok.funs, ok.frf⟩
section
variable {X : Cx} {pins : List (Addr × Obj)} {σ : St} {H : Hp} {s : Shared} {E : Value → Shared → Prop}
theorem Inv.wish (I : Inv X pins σ H s) (E : Value → Shared → Prop) : Inv (X.wish E) pins σ H s := ⟨I.ok.wish E, I.os, I.bare, I.base, I.loc, I.cell, I.free, I.freeC, I.pin, I.hok, I.len⟩
theorem Inv.unwish (I : Inv (X.wish E) pins σ H s) : Inv X pins σ H s := ⟨I.ok.unwish, I.os, I.bare, I.base, I.loc, I.cell, I.free, I.freeC, I.pin, I.hok, I.len⟩
theorem SP.unwish {D : Ends} {f : Flow} {s' : Shared} (h : SP (X.wish E) pins D f s') : SP X pins D f s' := by
  cases f with
  | next => obtain ⟨σ', H', I, q⟩ := h; exact ⟨σ', H', I.unwish, q⟩
  | brk => obtain ⟨σ', H', I, q⟩ := h; exact ⟨σ', H', I.unwish, q⟩
  | cont => obtain ⟨σ', H', I, q⟩ := h; exact ⟨σ', H', I.unwish, q⟩
  | ret u => obtain ⟨v, σ', H', I, r, q⟩ := h; exact ⟨v, σ', H', I.unwish, r, q⟩
theorem PE.nox {e : Expr} {t : TE} (h : PE X.nox e t) : PE X e t := fun pins s σ H Q I hw =>
  wpAny_mono (h pins s σ H Q (I.wish _) hw) (fun _ _ ⟨v, H', I', r, q⟩ => ⟨v, H', I'.unwish, r, q⟩) fun _ _ z => False.elim z
theorem PT.nox {e : Expr} {t : TT} (h : PT X.nox e t) : PT X e t := fun pins s σ H Q I hw =>
  wpAny_mono (h pins s σ H Q (I.wish _) hw) (fun _ _ ⟨H', I', q⟩ => ⟨H', I'.unwish, q⟩) fun _ _ z => False.elim z
theorem PSs.nox {st : List Stmt} {t : TS} (h : PSs X.nox st t) : PSs X st t := fun pins s σ H D I hw =>
  wpAny_mono (h pins s σ H D (I.wish _) hw) (fun _ _ q => q.unwish) fun _ _ z => False.elim z
end

/-! ### blocks and small statements -/
section
variable {X : Cx} {st : Stmt} {rest : List Stmt} {t u : TS} {e : Expr} {te : TE} {pos : Pos}
def tNext : TS := fun D σ H => D.nx σ H
def tSeq (t u : TS) : TS := fun D σ H => t { D with nx := u D } σ H
theorem pss_nil : PSs X [] tNext := fun _ _ σ H _ I h => wpAny_execs_nil ⟨σ, H, I, h⟩
theorem pss_cons (h1 : PS X st t) (h2 : PSs X rest u) : PSs X (st :: rest) (tSeq t u) := by
  intro pins s σ H D I h
  refine wpAny_execs_cons (thn (h1 pins s σ H { D with nx := u D } I h) fun f s1 q => ?_)
  cases f with
  | next =>
    obtain ⟨σ', H', I', q⟩ := q
    exact h2 pins s1 σ' H' D I' q
  | ret v => exact q
  | brk => exact q
  | cont => exact q
theorem pss_one (h1 : PS X st t) : PSs X [st] t := by
  intro pins s σ H D I h
  refine wpAny_execs_cons (thn (h1 pins s σ H D I h) fun f s1 q => ?_)
  cases f with
  | next => exact wpAny_execs_nil q
  | ret v => exact q
  | brk => exact q
  | cont => exact q
def tBreak : TS := fun D σ H => D.bk σ H
def tCont : TS := fun D σ H => D.ct σ H
theorem ps_continue : PS X (.Continue pos) tCont := fun _ _ σ H _ I h => wpAny_Continue ⟨σ, H, I, h⟩
/-- in a def's body nothing is shown -/
theorem Inv.quiet {pins : List (Addr × Obj)} {σ : St} {H : Hp} {s : Shared} (I : Inv X pins σ H s) : interactive X.env = false := by simp [interactive, I.ok.kind]
/-- an expression whose value is dropped -/
def tDrop (te : TE) : TS := fun D σ H => te σ H fun _ H1 => D.nx σ H1
theorem ps_expr (he : PE X e te) (hs : swapsWith e none pos.line X.env = pure false := by rfl) : PS X (.Expr e pos) (tDrop te) := by
  intro pins s σ H D I h
  exact wpAny_Expr_any (thn (he pins s σ H _ I h) fun v s1 ⟨x, H1, I1, r1, q1⟩ => ⟨σ, H1, I1, q1⟩) I.quiet hs
def tRet (te : TE) : TS := fun D σ H => te σ H D.rt
theorem ps_ret (he : PE X e te) : PS X (.Return (some e) pos) (tRet te) := by
  intro pins s σ H D I h
  exact wpAny_Return_some (thn (he pins s σ H _ I h) fun v s1 ⟨x, H1, I1, r1, q1⟩ => ⟨x, σ, H1, I1, r1, q1⟩)
def tRetN : TS := fun D _ H => D.rt .non H
def tIfS (c : TT) (t u : TS) : TS := fun D σ H => c σ H fun b H1 => if b = true then t D σ H1 else u D σ H1
theorem ps_if {c : Expr} {a b : List Stmt} {tc : TT} (hc : PT X c tc) (ha : PSs X a t) (hb : PSs X b u) : PS X (.If c a b pos) (tIfS tc t u) := by
  intro pins s σ H D I h
  refine wpAny_If (thn (hc pins s σ H _ I h) fun d s1 ⟨H1, I1, q1⟩ => ?_)
  cases d with
  | true => exact ha pins s1 σ H1 D I1 q1
  | false => exact hb pins s1 σ H1 D I1 q1
/-- code that the proof never comes to -/
def tNever : TS := fun _ _ _ => False
end

/-! ### targets -/
abbrev TG := V → St → Hp → (St → Hp → Prop) → Prop
abbrev TGs := List V → St → Hp → (St → Hp → Prop) → Prop
def PG (X : Cx) (target : Expr) (t : TG) : Prop :=
  ∀ (pins : List (Addr × Obj)) (s : Shared) (σ : St) (H : Hp) (v : V) (u : Value) (Q : St → Hp → Prop), Inv X pins σ H s → RelV v u → t v σ H Q →
    wpAny (model X.prog X.w) X.A (assign target X.env u) (fun _ s' => ∃ σ' H', Inv X pins σ' H' s' ∧ Q σ' H') X.xe s
/-- several targets, one after another -/
def PGs (X : Cx) (ts : List Expr) (t : TGs) : Prop :=
  ∀ (pins : List (Addr × Obj)) (s : Shared) (σ : St) (H : Hp) (vs : List V) (us : List Value) (Q : St → Hp → Prop), Inv X pins σ H s → Vals vs us → t vs σ H Q →
    wpAny (model X.prog X.w) X.A (assignInOrder ((assignEach ts X.env).map (·.2)) us) (fun _ s' => ∃ σ' H', Inv X pins σ' H' s' ∧ Q σ' H') X.xe s
/-- o[i] = v, by values -/
abbrev TSet := V → V → V → Hp → (Hp → Prop) → Prop
def PSet (X : Cx) (t : TSet) : Prop :=
  ∀ (pins : List (Addr × Obj)) (s : Shared) (σ : St) (H : Hp) (o i v : V) (ov iv u : Value) (Q : Hp → Prop), Inv X pins σ H s → RelV o ov → RelV i iv → RelV v u → t o i v H Q →
    wpAny (model X.prog X.w) X.A (setItem ov iv u) (fun _ s' => ∃ H', Inv X pins σ H' s' ∧ Q H') X.xe s
/-- a op= b, by values -/
abbrev TIp := V → V → Hp → VK → Prop
def PIp (X : Cx) (op : Operator) (t : TIp) : Prop :=
  ∀ (pins : List (Addr × Obj)) (s : Shared) (σ : St) (H : Hp) (x y : V) (v u : Value) (Q : VK), Inv X pins σ H s → RelV x v → RelV y u → t x y H Q →
    wpAny (model X.prog X.w) X.A (inplaceOp op v u) (EP X pins σ Q) X.xe s
section
variable {X : Cx} {pos : Pos}
def gName (i : Nat) : TG := fun v σ H Q => Q (σ.set i (some v)) H
theorem pg_name {i : Nat} {x : Str} (hN : X.N.Nodup) (hi : X.N[i]? = some x) (hx : Loc X.env.scope x) (hf : X.fn x = true ∨ X.env.scope.names.lookup x = some .local := by first | exact .inl rfl | exact .inr rfl | assumption) : PG X (.Name x pos) (gName i) := by
  intro pins s σ H v u Q I r h
  exact wpAny_assign_Name (store_ok I hN hi hx r (fun s' I' => ⟨_, H, I', h⟩) hf)
def gNil : TGs := fun vs σ H Q => vs = [] ∧ Q σ H
def gCons (t : TG) (u : TGs) : TGs := fun vs σ H Q => ∃ v r, vs = v :: r ∧ t v σ H fun σ' H' => u r σ' H' Q
/-- (a, b, ..) = a tuple of that length -/
def gTup (K : PySem.W.Frag) (n : Nat) (t : TGs) : TG := fun v σ H Q => ∃ a xs, v = .ref a ∧ SqT K H a xs ∧ xs.length = n ∧ t xs σ H Q
/-- o[i] = .. -/
def gSub (to ti : TE) (t : TSet) : TG := fun v σ H Q => to σ H fun o H1 => ti σ H1 fun i H2 => t o i v H2 fun H3 => Q σ H3
theorem pg_sub {o i : Expr} {to ti : TE} {t : TSet} (ho : PE X o to) (hi : PE X i ti) (hs : PSet X t)
    (ha : ∀ v, assign (.Subscript o i pos) X.env v = (do
      let ov ← holding [v] (eval o X.env)
      let iv ← holding [v, ov] (eval i X.env)
      standAt pos
      holding [v, ov, iv] (setItem ov iv v)
      release [v, ov, iv] []) := by intro _; rfl) : PG X (.Subscript o i pos) (gSub to ti t) := by
  intro pins s σ H v u Q I r h
  rw [ha]
  refine wpAny_bind (wpAny_holding (thn (ho pins s σ H _ I h) fun ov s1 ⟨x, H1, I1, r1, q1⟩ => ?_))
  refine wpAny_bind (wpAny_holding (thn (hi pins s1 σ H1 _ I1 q1) fun iv s2 ⟨y, H2, I2, r2, q2⟩ => ?_))
  refine wpAny_bind (wpAny_standAt (wpAny_bind (wpAny_holding (thn (hs pins s2 σ H2 x y v ov iv u _ I2 r1 r2 r q2) fun _ s3 ⟨H3, I3, q3⟩ => ?_))))
  exact wpAny_release ⟨σ, H3, I3, q3⟩
/-- target = value -/
def tAsg (te : TE) (g : TG) : TS := fun D σ H => te σ H fun x H1 => g x σ H1 D.nx
theorem ps_asg {tg e : Expr} {te : TE} {g : TG} (he : PE X e te) (hg : PG X tg g) (hs : swapsWithSole [tg] e pos.line X.env = pure false := by rfl) (hw : swappedStores [tg] e X.env = pure none := by rfl)
    (h1 : (assignEach [tg] X.env).map (·.2) = [assign tg X.env] := by rfl) : PS X (.Assign [tg] e pos) (tAsg te g) := by
  intro pins s σ H D I h
  refine wpAny_Assign_stores (thn (he pins s σ H _ I h) fun v s1 ⟨x, H1, I1, r1, q1⟩ => ?_) hs hw
  rw [h1]
  exact thn (hg pins s1 σ H1 x v _ I1 r1 q1) fun _ s2 q => q
/-- name = value -/
theorem ps_set {i : Nat} {x : Str} {e : Expr} {te : TE} {pos' : Pos} (hN : X.N.Nodup) (hi : X.N[i]? = some x) (hx : Loc X.env.scope x) (he : PE X e te) (hs : swapsWith e (some (.Name x pos')) pos.line X.env = pure false := by rfl) (hf : X.fn x = true ∨ X.env.scope.names.lookup x = some .local := by first | exact .inl rfl | exact .inr rfl | assumption) :
    PS X (.Assign [.Name x pos'] e pos) (tAsg te (gName i)) := by
  intro pins s σ H D I h
  refine wpAny_Assign_Name (thn (he pins s σ H _ I h) fun v s1 ⟨y, H1, I1, r1, q1⟩ => ?_) hs
  exact store_ok I1 hN hi hx r1 (fun s2 I2 => ⟨_, H1, I2, q1⟩) hf
/-- a, b = x, y with plain local names: stored from the right; the pair itself is not tracked (the opening rows as in PyProof/Rows/TupAssign.lean:23) -/
def tPar (i j : Nat) (ta : TA) : TS := fun D σ H => ta σ H fun vs H1 => ∃ v w, vs = [v, w] ∧ D.nx ((σ.set i (some v)).set j (some w)) H1
/-- name op= e -/
def tAug (i : Nat) (te : TE) (ti : TIp) : TS := fun D σ H => ∃ x, σ[i]? = some (some x) ∧ te σ H fun y H1 => ti x y H1 fun z H2 => D.nx (σ.set i (some z)) H2
/-- o[i] op= e -/
def tAugS (to ti te : TE) (tget : V → V → Hp → VK → Prop) (tip : TIp) (tset : TSet) : TS := fun D σ H => to σ H fun o H1 => ti σ H1 fun i H2 => tget o i H2 fun x H3 => te σ H3 fun y H4 => tip x y H4 fun z H5 => tset o i z H5 fun H6 => D.nx σ H6
/-- o[i], by values -/
def PGet (X : Cx) (t : V → V → Hp → VK → Prop) : Prop :=
  ∀ (pins : List (Addr × Obj)) (s : Shared) (σ : St) (H : Hp) (o i : V) (ov iv : Value) (Q : VK), Inv X pins σ H s → RelV o ov → RelV i iv → t o i H Q →
    wpAny (model X.prog X.w) X.A (getItem ov iv) (EP X pins σ Q) X.xe s
/-- ints -/
def ipI (f : Int → Int → Int) : TIp := fun x y H Q => ∃ i j, x = .int i ∧ y = .int j ∧ Q (.int (f i j)) H
end

/-! ### while -/
section
variable {X : Cx} {pos : Pos}
/-- the invariant W with its measure -/
def tWhile (c : TT) (tb : TS) : TS := fun D σ H => ∃ W : Nat → St → Hp → Prop, (∃ m, W m σ H) ∧ ∀ m σ H, W m σ H →
  c σ H fun b H1 => if b = true then ∃ N : St → Hp → Prop, (∀ σ' H', N σ' H' → ∃ m', m' < m ∧ W m' σ' H') ∧ tb { D with nx := N, ct := N, bk := D.nx } σ H1 else D.nx σ H1
end

/-! ### what a loop or a comprehension walks -/
/-- at turn i: it yields x (the heap may grow), or it stops -/
structure It where
  go : Nat → Hp → Prop
  yld : Nat → Hp → V → Hp → Prop
  stop : Nat → Hp → Prop
/-- the iterator's own objects may turn: they are not the frame's, not pinned, younger than the entry (or a comprehension's own) -/
def FpOk (X : Cx) (pins : List (Addr × Obj)) (H : Hp) (b : Addr) : Prop :=
  H b = none ∧ b ≠ X.env.locals ∧ b ∉ X.fs ∧ (b ∈ X.ex ∨ X.s₀.heap.objs.size ≤ b) ∧ (∀ x c, X.env.cells.lookup x = some c → c ≠ b) ∧ ∀ p ∈ X.pn ++ pins, p.1 ≠ b
theorem Inv.fpOk {X : Cx} {pins : List (Addr × Obj)} {σ : St} {H H' : Hp} {s : Shared} {b : Addr} (I : Inv X pins σ H s) (hb : s.heap.objs.size ≤ b) (hn : H' b = none) : FpOk X pins H' b := by
  refine ⟨hn, Nat.ne_of_gt (Nat.lt_of_lt_of_le I.lt hb), I.nofs hb, .inr (Nat.le_trans I.sz hb), fun x c e z => ?_, fun p hp z => ?_⟩
  · obtain ⟨v, q⟩ := I.cell x c e
    exact absurd (Nat.lt_of_lt_of_le q.lt (by rw [z]; exact hb)) (Nat.lt_irrefl _)
  · exact absurd (Nat.lt_of_lt_of_le (Heap.lt_size (I.pin p hp).1) (by rw [z]; exact hb)) (Nat.lt_irrefl _)
structure Turn (P : Program) (w : World) (K : PySem.W.Frag) (tg : Expr) (J : It) (fp : List Addr) (it : Addr) (tn : Nat → Heap → Prop) : Prop where
  mem : it ∈ fp
  obj : ∀ i h, tn i h → ∀ b ∈ fp, ∃ o, h.get? b = some o ∧ ∀ v, o.data ≠ .cell v
  keep : ∀ i h h', tn i h → (∀ b ∈ fp, ∀ o, h.get? b = some o → h'.get? b = some o) → tn i h'
  item : ∀ (X : Cx), X.prog = P → X.w = w → X.K = K → X.calm = true → ∀ (i : Nat) (pins : List (Addr × Obj)) (s : Shared) (σ : St) (H : Hp) (E : Value → Shared → Prop), Inv X pins σ H s → (∀ b ∈ fp, FpOk X pins H b) → tn i s.heap → J.go i H →
    wpAny (model P w) X.A (pyNext (.ref it)) (fun r s1 => ∃ u, r = some u ∧
      wpAny (model P w) X.A (letOwnedTupleGo tg (.ref it) u) (fun _ s2 => ∃ x H', Inv X pins σ H' s2 ∧ RelV x u ∧ J.yld i H x H' ∧ tn (i + 1) s2.heap ∧ ∀ b ∈ fp, H' b = none) E s1) E s
  done : ∀ (X : Cx), X.prog = P → X.w = w → X.K = K → X.calm = true → ∀ (i : Nat) (pins : List (Addr × Obj)) (s : Shared) (σ : St) (H : Hp) (E : Value → Shared → Prop), Inv X pins σ H s → (∀ b ∈ fp, FpOk X pins H b) → tn i s.heap → J.stop i H →
    wpAny (model P w) X.A (pyNext (.ref it)) (fun r s1 => r = none ∧ Inv X pins σ H s1) E s
  self : ∀ (A : Around) (i : Nat) (s : Shared) (Q : Value → Shared → Prop) (E : Value → Shared → Prop), tn i s.heap → Q (.ref it) s → wpAny (model P w) A (pyIter (.ref it)) Q E s
abbrev TI := St → Hp → (It → Hp → Prop) → Prop
/-- an iterator has come -/
def PIE (X : Cx) (pins : List (Addr × Obj)) (σ : St) (tg : Expr) (R : It → Hp → Prop) (itv : Value) (s2 : Shared) : Prop :=
  ∃ (it : Addr) (fp : List Addr) (tn : Nat → Heap → Prop) (J : It) (H' : Hp), itv = .ref it ∧ Inv X pins σ H' s2 ∧ Turn X.prog X.w X.K tg J fp it tn ∧ tn 0 s2.heap ∧ (∀ b ∈ fp, FpOk X pins H' b) ∧ R J H'
def PI (X : Cx) (tg iter : Expr) (wi : TI) : Prop :=
  ∀ (pins : List (Addr × Obj)) (s : Shared) (σ : St) (H : Hp) (R : It → Hp → Prop), Inv X pins σ H s → wi σ H R →
    wpAny (model X.prog X.w) X.A (eval iter X.env) (fun v s1 => wpAny (model X.prog X.w) X.A (pyIter v) (PIE X pins σ tg R) X.xe s1) X.xe s

/-- the step ahead of the store is nothing for an iterator that keeps no tuple -/
theorem go_of {M : Model} {A : Around} {E : Value → Shared → Prop} {s : Shared} {tg : Expr} {it : Addr} {u : Value} {o : Obj} {n : String} {vs : Array Value} {Q : Unit → Shared → Prop} (ho : s.heap.get? it = some o) (hc : o.cls = .type n) (hd : o.data = .fields vs)
    (hn : ["enumerate", "zip", "dict_itemiterator", "dict_reverseitemiterator", "odict_iterator", "itertools.zip_longest", "itertools.pairwise"].contains n = false) (hQ : Q () s) : wpAny M A (letOwnedTupleGo tg (.ref it) u) Q E s := by
  unfold letOwnedTupleGo
  cases tg <;> first
    | exact wpAny_pure hQ
    | (cases u <;> first
        | exact wpAny_pure hQ
        | (refine wpAny_bind (wpAny_load ho ?_)
           rw [hc, hd]
           show wpAny M A (if (["enumerate", "zip", "dict_itemiterator", "dict_reverseitemiterator", "odict_iterator", "itertools.zip_longest", "itertools.pairwise"].contains n && vs[0]? == some (rawInt _)) = true then _ else _) Q E s
           rw [if_neg (by intro h; rw [hn, Bool.false_and] at h; cases h)]
           exact wpAny_pure hQ))

/-- the list at a, as it stands at each turn (a loop may append to it) -/
def Itl (K : PySem.W.Frag) (a : Addr) : It :=
  ⟨fun i H => ∃ xs x, SqL K H a xs ∧ xs[i]? = some x, fun i H x H' => H' = H ∧ ∀ xs, SqL K H a xs → xs[i]? = some x, fun i H => ∃ xs, SqL K H a xs ∧ xs.length ≤ i⟩
def Itt (K : PySem.W.Frag) (a : Addr) : It :=
  ⟨fun i H => ∃ xs x, SqT K H a xs ∧ xs[i]? = some x, fun i H x H' => H' = H ∧ ∀ xs, SqT K H a xs → xs[i]? = some x, fun i H => ∃ xs, SqT K H a xs ∧ xs.length ≤ i⟩
/-- lo, lo + 1, .. (n of them) -/
def Itr (lo : Int) (n : Nat) : It := ⟨fun i _ => i < n, fun i H x H' => H' = H ∧ x = .int (lo + i), fun i _ => n ≤ i⟩
theorem turn_list {P : Program} {w : World} {K : PySem.W.Frag} {tg : Expr} (a it : Addr) : Turn P w K tg (Itl K a) [it] it (fun i h => h.IsListIter it a i) where
  mem := by simp
  obj := fun i h st b hb => by
    have e : b = it := by simpa using hb
    subst e
    obtain ⟨o, e, c, d⟩ := st
    exact ⟨o, e, fun v z => by rw [d] at z; cases z⟩
  keep := fun i h h' st k => st.at fun o e => k it (by simp) o e
  item := by
    intro X hP hw hK hc i pins s σ H E I hf st hg
    subst hP hw hK
    obtain ⟨xs, x, hq, hx⟩ := hg
    obtain ⟨its, rv, p, hz⟩ := I.list hq
    obtain ⟨u, hu, ru⟩ := rv.get hx
    obtain ⟨f0, f1, f2, f3, f4, f5⟩ := hf it (by simp)
    refine wpAny_pyNext_list_item st p.isList (x := u) (by simpa using hu) fun h' st' sb => ?_
    have I1 : Inv X pins σ H { s with heap := h' } := I.turned (t' := s.toks) (fun b o hb e => (sb.2 b hb).trans e) f0 f1 f3 f4 f5
    obtain ⟨o, e, c, d⟩ := id st'
    exact ⟨u, rfl, go_of (s := { s with heap := h' }) e c d (by decide) ⟨x, H, I1, ru, ⟨rfl, fun ys hy => by rw [I.list_inj hy hq]; exact hx⟩, st', fun b hb => (hf b hb).1⟩⟩
  done := by
    intro X hP hw hK hc i pins s σ H E I hf st hg
    subst hP hw hK
    obtain ⟨xs, hq, hx⟩ := hg
    obtain ⟨its, rv, p, hz⟩ := I.list hq
    obtain ⟨f0, f1, f2, f3, f4, f5⟩ := hf it (by simp)
    have hl := rv.length
    exact wpAny_pyNext_list_end (I.ok.hd hc) st p.isList (by simp; omega) fun h' eb => ⟨rfl, I.turned (t' := s.toks) (fun b o hb e => eb b o hb e) f0 f1 f3 f4 f5⟩
  self := fun _ _ _ _ _ st h => wpAny_pyIter_listiter st h
theorem turn_range {P : Program} {w : World} {K : PySem.W.Frag} {tg : Expr} (it : Addr) (lo : Int) (n : Nat) : Turn P w K tg (Itr lo n) [it] it (fun i h => IsRangeIter h it (lo + (i : Nat) * 1) ((n : Int) - (i : Nat)) 1) where
  mem := by simp
  obj := fun i h st b hb => by
    have e : b = it := by simpa using hb
    subst e
    exact ⟨_, st, fun v z => by
      have z' : Data.fields _ = Data.cell v := z
      cases z'⟩
  keep := fun i h h' st k => k it (by simp) _ st
  item := by
    intro X hP hw hK hc i pins s σ H E I hf st hg
    subst hP hw hK
    obtain ⟨f0, f1, f2, f3, f4, f5⟩ := hf it (by simp)
    have W := Walks.range (prog := X.prog) (w := X.w) (I.ok.hd hc) it lo 1 n
    refine W.item i s _ _ hg st fun v h' tk hv st' kk => ?_
    obtain ⟨t, rfl⟩ := hv
    have I1 : Inv X pins σ H { s with heap := h', toks := tk } := I.turned (fun b o hb e => kk b o (by simpa using hb) e) f0 f1 f3 f4 f5
    refine ⟨_, rfl, go_of (s := { s with heap := h', toks := tk }) (n := "range_iterator") st' rfl rfl (by decide) ⟨.int (lo + i), H, I1, ⟨t, ?_⟩, ⟨rfl, rfl⟩, st', fun b hb => (hf b hb).1⟩⟩
    rw [Int.mul_one]
  done := by
    intro X hP hw hK hc i pins s σ H E I hf st hg
    subst hP hw hK
    obtain ⟨f0, f1, f2, f3, f4, f5⟩ := hf it (by simp)
    exact wpAny_pyNext_range_end (I.ok.hd hc) st (by have : n ≤ i := hg; omega) fun h' eb => ⟨rfl, I.turned (t' := s.toks) (fun b o hb e => eb b o hb e) f0 f1 f3 f4 f5⟩
  self := fun _ _ _ _ _ st h => wpAny_pyIter_rangeiter st h
end L2

namespace L2
open PySem PySem.Spec PyProof.Rows
section
variable {X : Cx} {tg : Expr}
def iList (K : PySem.W.Frag) (tl : TE) : TI := fun σ H R => tl σ H fun x H1 => ∃ a, x = .ref a ∧ (∃ xs, SqL K H1 a xs) ∧ R (Itl K a) H1
def iTup (K : PySem.W.Frag) (tl : TE) : TI := fun σ H R => tl σ H fun x H1 => ∃ a, x = .ref a ∧ (∃ xs, SqT K H1 a xs) ∧ R (Itt K a) H1
theorem pi_list {l : Expr} {tl : TE} (hl : PE X l tl) : PI X tg l (iList X.K tl) := by
  intro pins s σ H R I h
  refine thn (hl pins s σ H _ I h) fun v s1 ⟨x, H1, I1, r1, q1⟩ => ?_
  obtain ⟨a, e, ⟨xs, hq⟩, q⟩ := q1
  subst e
  cases r1
  obtain ⟨its, rv, p, hz⟩ := I1.list hq
  refine wpAny_pyIter_list p.isList ?_
  refine ⟨s1.heap.objs.size, [s1.heap.objs.size], _, _, H1, rfl, I1.kept (t' := s1.toks) fun b o e => Heap.get?_push_of_some _ e, turn_list a _, ⟨_, Heap.get?_push_size _ rfl, rfl, rfl⟩, fun b hb => ?_, q⟩
  have e : b = s1.heap.objs.size := by simpa using hb
  subst e
  exact I1.fpOk (Nat.le_refl _) (I1.hok.fresh (Nat.le_refl _))
/-- a range object just made, walked -/
theorem range_it {pins : List (Addr × Obj)} {σ : St} {H : Hp} {s : Shared} {R : It → Hp → Prop} {E : Value → Shared → Prop} {lo hi : Int} {t u v : Tok} {tk : Nat} (I : Inv X pins σ H s) (h1 : -(2 ^ 62) ≤ lo) (h2 : lo < 2 ^ 62) (h3 : -(2 ^ 62) ≤ hi) (h4 : hi < 2 ^ 62)
    (q : R (Itr lo (hi - lo).toNat) H) : wpAny (model X.prog X.w) X.A (pyIter (.ref s.heap.objs.size)) (PIE X pins σ tg R) E { s with heap := s.heap.push { cls := .type "range", data := .fields #[.int lo t, .int hi u, .int 1 v] }, toks := tk } := by
  refine wpAny_pyIter_range (IsRange.new ..) (small_one h1 h2 h3 h4) ?_
  have I1 : Inv X pins σ H { s with heap := s.heap.push { cls := .type "range", data := .fields #[.int lo t, .int hi u, .int 1 v] }, toks := tk } := I.kept fun b o e => Heap.get?_push_of_some _ e
  refine ⟨(s.heap.push { cls := .type "range", data := .fields #[.int lo t, .int hi u, .int 1 v] }).objs.size, [(s.heap.push { cls := .type "range", data := .fields #[.int lo t, .int hi u, .int 1 v] }).objs.size], _, _, H, rfl,
    I1.kept (t' := tk) fun b o e => Heap.get?_push_of_some _ e, turn_range _ lo (hi - lo).toNat, ?_, fun b hb => ?_, q⟩
  · have e1 : lo + ((0 : Nat) : Int) * 1 = lo := by simp
    have e2 : (((hi - lo).toNat : Nat) : Int) - ((0 : Nat) : Int) = Builtin.Range.rangeSize lo hi 1 := by rw [rangeSize_one]; split <;> omega
    show IsRangeIter _ _ (lo + ((0 : Nat) : Int) * 1) ((((hi - lo).toNat : Nat) : Int) - ((0 : Nat) : Int)) 1
    rw [e1, e2]
    exact Heap.get?_push_size _ rfl
  · have e : b = (s.heap.push { cls := .type "range", data := .fields #[.int lo t, .int hi u, .int 1 v] }).objs.size := by simpa using hb
    subst e
    exact I1.fpOk (Nat.le_refl _) (I1.hok.fresh (Nat.le_refl _))
def iRng1 (ta : TA) : TI := fun σ H R => ta σ H fun vs H1 => ∃ j : Int, vs = [.int j] ∧ -(2 ^ 62) ≤ j ∧ j < 2 ^ 62 ∧ R (Itr 0 j.toNat) H1
def iRng2 (ta : TA) : TI := fun σ H R => ta σ H fun vs H1 => ∃ i j : Int, vs = [.int i, .int j] ∧ (-(2 ^ 62) ≤ i ∧ i < 2 ^ 62 ∧ -(2 ^ 62) ≤ j ∧ j < 2 ^ 62) ∧ R (Itr i (j - i).toNat) H1
theorem pi_range1 {a : Expr} {ta : TA} {p pos : Pos} (hg : Gl X "range") (hm : X.mg "range" = none) (ha : PA X [a] ta) (hs : starEach [a] X.env = [(false, eval a X.env)] := by rfl) : PI X tg (.Call (.Name "range" p) [a] [] pos) (iRng1 ta) := by
  intro pins s σ H R I h
  refine Call_ (ld_blt I hg hm boot_range (PyProof.Rows.callWith_type1 (thn (ha pos pins s σ H _ I h) fun us s1 ⟨vs, H1, I1, r1, q1⟩ => ?_) hs rfl))
  obtain ⟨j, e, q1, q2, q⟩ := q1
  subst e
  cases r1 with
  | cons r rr =>
    cases rr
    obtain ⟨t, rfl⟩ := r
    exact call_range_1 (range_it I1 (by omega) (by omega) q1 q2 (by simpa using q))
/-! ### for -/
/-- W: the invariant by the turn and a measure; N: what the body is to reach -/
def tFor (wi : TI) (g : TG) (tb : TS) : TS := fun D σ H => wi σ H fun J H1 => ∃ W : Nat → Nat → St → Hp → Prop, (∃ m, W 0 m σ H1) ∧ ∀ i m σ H, W i m σ H →
  (J.stop i H ∧ D.nx σ H) ∨ (J.go i H ∧ ∃ N : St → Hp → Prop, (∀ σ' H', N σ' H' → ∃ m', m' < m ∧ W (i + 1) m' σ' H') ∧ ∀ x H', J.yld i H x H' → g x σ H' fun σ2 H2 => tb { D with nx := N, ct := N, bk := D.nx } σ2 H2)
/-- the records at fp as they stand -/
def pinsAt (fp : List Addr) (h : Heap) : List (Addr × Obj) := fp.filterMap fun b => (h.get? b).map fun o => (b, o)
theorem mem_pinsAt {fp : List Addr} {h : Heap} {b : Addr} {o : Obj} (hb : b ∈ fp) (e : h.get? b = some o) : (b, o) ∈ pinsAt fp h := List.mem_filterMap.mpr ⟨b, hb, by rw [e]; rfl⟩
theorem of_pinsAt {fp : List Addr} {h : Heap} {p : Addr × Obj} (hp : p ∈ pinsAt fp h) : p.1 ∈ fp ∧ h.get? p.1 = some p.2 := by
  obtain ⟨b, hb, e⟩ := List.mem_filterMap.mp hp
  cases q : h.get? b with
  | none => rw [q] at e; cases e
  | some o =>
    rw [q] at e
    have e' : (b, o) = p := Option.some.inj e
    subst e'
    exact ⟨hb, q⟩
theorem Inv.pinned {pins : List (Addr × Obj)} {σ : St} {H : Hp} {s : Shared} {fp : List Addr} (I : Inv X pins σ H s) (hf : ∀ b ∈ fp, FpOk X pins H b) (ho : ∀ b ∈ fp, ∃ o, s.heap.get? b = some o ∧ ∀ v, o.data ≠ .cell v) : Inv X (pins ++ pinsAt fp s.heap) σ H s :=
  I.pins_of fun p hp => (List.mem_append.mp hp).elim (fun z => I.pin p (List.mem_append_right _ z)) fun z => by
    obtain ⟨hb, e⟩ := of_pinsAt z
    obtain ⟨f0, f1, f2, _⟩ := hf p.1 hb
    obtain ⟨o, e', d⟩ := ho p.1 hb
    rw [e] at e'; cases e'
    exact ⟨e, f0, f1, f2, d⟩
theorem Inv.unpinned {pins pl : List (Addr × Obj)} {σ : St} {H : Hp} {s : Shared} (I : Inv X (pins ++ pl) σ H s) : Inv X pins σ H s := I.pins_of fun p hp => I.pin p (List.mem_append_right _ (List.mem_append_left _ hp))
theorem ps_for {iter : Expr} {body : List Stmt} {wi : TI} {g : TG} {tb : TS} {pos : Pos} (hp : PassesOwn (model X.prog X.w) X.A X.env X.xe) (hc : X.calm = true) (hi : PI X tg iter wi) (hg : PG X tg g) (hb : PSs X body tb)
    (hs : ∀ x, foldedSetIterable iter X.env x = pure x := by intro _; rfl) : PS X (.For tg iter body [] pos) (tFor wi g tb) := by
  intro pins s σ H D I h
  refine wpAny_For (thn (hi pins s σ H _ I h) fun v s1 h1 => thn h1 fun itv s2 h2 => ?_) hs
  obtain ⟨it, fp, tn, J, H2, e, I2, T, st2, f2, W, ⟨m0, w0⟩, turn⟩ := h2
  subst e
  -- what stays true of the iterator's objects through the loop
  have stat : ∀ {H' : Hp}, (∀ b ∈ fp, H' b = none) → ∀ b ∈ fp, FpOk X pins H' b := fun hn b hb => ⟨hn b hb, (f2 b hb).2⟩
  refine codeAny_forLoop_any (fun n s' => ∃ i σ' H', Inv X pins σ' H' s' ∧ tn i s'.heap ∧ (∀ b ∈ fp, H' b = none) ∧ W i n σ' H') ?_ m0 ⟨0, σ, H2, I2, st2, fun b hb => (f2 b hb).1, w0⟩
  rintro n s3 ⟨i, σ3, H3, I3, st3, fr3, w3⟩
  rcases turn i n σ3 H3 w3 with ⟨stop, qn⟩ | ⟨go, N, hN, step⟩
  · refine wpAny_passesOwn hp (thn (T.done X rfl rfl rfl hc i pins s3 σ3 H3 X.xe I3 (stat fr3) st3 stop) fun r s4 ⟨hr, I4⟩ => ?_)
    subst hr
    exact wpAny_execs_nil ⟨σ3, H3, I4, qn⟩
  · refine wpAny_passesOwn hp (thn (T.item X rfl rfl rfl hc i pins s3 σ3 H3 X.xe I3 (stat fr3) st3 go) fun r s4 ⟨u, hr, h4⟩ => ?_)
    subst hr
    refine wpAny_passesOwn hp (thn h4 fun _ s5 ⟨x, H5, I5, r5, y5, st5, fr5⟩ => ?_)
    have I5' := I5.pinned (stat fr5) (T.obj _ _ st5)
    refine wpAny_passesOwn hp (thn (hg _ s5 σ3 H5 x u _ I5' r5 (step x H5 y5)) fun _ s6 ⟨σ6, H6, I6, q6⟩ => ?_)
    refine wpAny_passesOwn hp (thn (hb _ s6 σ6 H6 _ I6 q6) fun f s7 q7 => ?_)
    have again : ∀ {σ7 : St} {H7 : Hp}, Inv X (pins ++ pinsAt fp s5.heap) σ7 H7 s7 → N σ7 H7 → ∃ m, m < n ∧ ∃ i σ' H', Inv X pins σ' H' s7 ∧ tn i s7.heap ∧ (∀ b ∈ fp, H' b = none) ∧ W i m σ' H' := fun {σ7 H7} I7 n7 => by
      obtain ⟨m', hm, w7⟩ := hN σ7 H7 n7
      refine ⟨m', hm, i + 1, σ7, H7, I7.unpinned, T.keep _ _ _ st5 fun b hb o e => (I7.pin (b, o) (List.mem_append_right _ (List.mem_append_right _ (mem_pinsAt hb e)))).1, fun b hb => ?_, w7⟩
      obtain ⟨o, e, d⟩ := T.obj _ _ st5 b hb
      exact (I7.pin (b, o) (List.mem_append_right _ (List.mem_append_right _ (mem_pinsAt hb e)))).2.1
    cases f with
    | next => obtain ⟨σ7, H7, I7, n7⟩ := q7; exact again I7 n7
    | cont => obtain ⟨σ7, H7, I7, n7⟩ := q7; exact again I7 n7
    | brk => obtain ⟨σ7, H7, I7, q7⟩ := q7; exact ⟨σ7, H7, I7.unpinned, q7⟩
    | ret v => obtain ⟨x7, σ7, H7, I7, r7, q7⟩ := q7; exact ⟨x7, σ7, H7, I7.unpinned, r7, q7⟩
end

/-! ### the forms one uses -/
/-- over a list that the body leaves as it is -/
theorem for_list {K : PySem.W.Frag} {a : Addr} {xs : List V} {g : TG} {tb : TS} {D : Ends} {σ : St} {H : Hp} (Pv : Nat → St → Hp → Prop) (h0 : Pv 0 σ H) (hl : ∀ i σ H, i ≤ xs.length → Pv i σ H → SqL K H a xs)
    (hs : ∀ i x σ H, xs[i]? = some x → Pv i σ H → g x σ H fun σ2 H2 => tb { D with nx := Pv (i + 1), ct := Pv (i + 1), bk := D.nx } σ2 H2) (hd : ∀ σ H, Pv xs.length σ H → D.nx σ H) :
    ∃ W : Nat → Nat → St → Hp → Prop, (∃ m, W 0 m σ H) ∧ ∀ i m σ H, W i m σ H →
      ((Itl K a).stop i H ∧ D.nx σ H) ∨ ((Itl K a).go i H ∧ ∃ N : St → Hp → Prop, (∀ σ' H', N σ' H' → ∃ m', m' < m ∧ W (i + 1) m' σ' H') ∧ ∀ x H', (Itl K a).yld i H x H' → g x σ H' fun σ2 H2 => tb { D with nx := N, ct := N, bk := D.nx } σ2 H2) := by
  refine ⟨fun i m σ H => m = xs.length - i ∧ i ≤ xs.length ∧ Pv i σ H, ⟨xs.length, by simp, Nat.zero_le _, h0⟩, ?_⟩
  rintro i m σ H ⟨rfl, hi, p⟩
  have q := hl i σ H hi p
  by_cases hlt : i < xs.length
  · refine .inr ⟨⟨xs, xs[i], q, by simp [hlt]⟩, Pv (i + 1), fun σ' H' p' => ⟨xs.length - (i + 1), by omega, rfl, hlt, p'⟩, fun x H' y => ?_⟩
    obtain ⟨e, y⟩ := y
    subst e
    exact hs i x σ _ (y xs q) p
  · have e : i = xs.length := by omega
    subst e
    exact .inl ⟨⟨xs, q, Nat.le_refl _⟩, hd σ H p⟩
theorem for_range {lo : Int} {n : Nat} {g : TG} {tb : TS} {D : Ends} {σ : St} {H : Hp} (Pv : Nat → St → Hp → Prop) (h0 : Pv 0 σ H)
    (hs : ∀ i σ H, i < n → Pv i σ H → g (.int (lo + i)) σ H fun σ2 H2 => tb { D with nx := Pv (i + 1), ct := Pv (i + 1), bk := D.nx } σ2 H2) (hd : ∀ σ H, Pv n σ H → D.nx σ H) :
    ∃ W : Nat → Nat → St → Hp → Prop, (∃ m, W 0 m σ H) ∧ ∀ i m σ H, W i m σ H →
      ((Itr lo n).stop i H ∧ D.nx σ H) ∨ ((Itr lo n).go i H ∧ ∃ N : St → Hp → Prop, (∀ σ' H', N σ' H' → ∃ m', m' < m ∧ W (i + 1) m' σ' H') ∧ ∀ x H', (Itr lo n).yld i H x H' → g x σ H' fun σ2 H2 => tb { D with nx := N, ct := N, bk := D.nx } σ2 H2) := by
  refine ⟨fun i m σ H => m = n - i ∧ i ≤ n ∧ Pv i σ H, ⟨n, by simp, Nat.zero_le _, h0⟩, ?_⟩
  rintro i m σ H ⟨rfl, hi, p⟩
  by_cases hlt : i < n
  · refine .inr ⟨hlt, Pv (i + 1), fun σ' H' p' => ⟨n - (i + 1), by omega, rfl, hlt, p'⟩, fun x H' y => ?_⟩
    obtain ⟨e, y⟩ := y
    subst e y
    exact hs i σ _ hlt p
  · have e : i = n := by omega
    subst e
    exact .inl ⟨Nat.le_refl _, hd σ H p⟩
end L2

namespace L2
open PySem PySem.Spec PyProof.Rows

abbrev R2 := V → V → Hp → VK → Prop
/-- a two-place operation on values: f is binaryOp op, inplaceOp op or compareOp op -/
def OpR (X : Cx) (f : Value → Value → Sem Value) (r : R2) : Prop :=
  ∀ (pins : List (Addr × Obj)) (s : Shared) (σ : St) (H : Hp) (x y : V) (v u : Value) (Q : VK), Inv X pins σ H s → RelV x v → RelV y u → r x y H Q →
    wpAny (model X.prog X.w) X.A (f v u) (EP X pins σ Q) X.xe s
/-- a one-place operation -/
def UnR (X : Cx) (f : Value → Sem Value) (r : V → Hp → VK → Prop) : Prop :=
  ∀ (pins : List (Addr × Obj)) (s : Shared) (σ : St) (H : Hp) (x : V) (v : Value) (Q : VK), Inv X pins σ H s → RelV x v → r x H Q →
    wpAny (model X.prog X.w) X.A (f v) (EP X pins σ Q) X.xe s
/-- a call of a value that is known (a builtin, a type) with values -/
def CallR (X : Cx) (f : Value) (r : List V → Hp → VK → Prop) : Prop :=
  ∀ (pins : List (Addr × Obj)) (s : Shared) (σ : St) (H : Hp) (xs : List V) (us : List Value) (Q : VK), Inv X pins σ H s → Vals xs us → r xs H Q →
    wpAny (model X.prog X.w) X.A (call f us) (EP X pins σ Q) X.xe s
/-- a value's truth -/
def TruR (X : Cx) (r : V → Hp → (Bool → Hp → Prop) → Prop) : Prop :=
  ∀ (pins : List (Addr × Obj)) (s : Shared) (σ : St) (H : Hp) (x : V) (v : Value) (Q : Bool → Hp → Prop), Inv X pins σ H s → RelV x v → r x H Q →
    wpAny (model X.prog X.w) X.A (truthy v) (TP X pins σ Q) X.xe s

def tOp (r : R2) (ta tb : TE) : TE := fun σ H Q => ta σ H fun x H1 => tb σ H1 fun y H2 => r x y H2 Q
def tUn (r : V → Hp → VK → Prop) (ta : TE) : TE := fun σ H Q => ta σ H fun x H1 => r x H1 Q
/-- ints in, under C, and a value out -/
def rI (C : Int → Int → Prop) (g : Int → Int → V) : R2 := fun x y H Q => ∃ i j, x = .int i ∧ y = .int j ∧ C i j ∧ Q (g i j) H
def rI0 (g : Int → Int → V) : R2 := fun x y H Q => ∃ i j, x = .int i ∧ y = .int j ∧ Q (g i j) H
def rU (g : Int → V) : V → Hp → VK → Prop := fun x H Q => ∃ i, x = .int i ∧ Q (g i) H

section
variable {X : Cx} {a b c : Expr} {ta tb tc : TE} {pos : Pos}

theorem binT (ha : PE X a ta) (hb : PE X b tb) {pins : List (Addr × Obj)} {s : Shared} {σ : St} {H : Hp} {R : V → V → Hp → Prop} (I : Inv X pins σ H s)
    (h : ta σ H fun x H1 => tb σ H1 fun y H2 => R x y H2) {Q : Value → Shared → Prop} {f : Value → Value → Sem Value}
    (hf : ∀ v u s2 x y H2, Inv X pins σ H2 s2 → RelV x v → RelV y u → R x y H2 → wpAny (model X.prog X.w) X.A (f v u) Q X.xe s2) :
    wpAny (model X.prog X.w) X.A (eval a X.env) (fun v s₁ => wpAny (model X.prog X.w) X.A (eval b X.env) (fun u s₂ => wpAny (model X.prog X.w) X.A (f v u) Q X.xe s₂) X.xe s₁) X.xe s := by
  refine thn (ha pins s σ H _ I h) fun v s1 ⟨x, H1, I1, r1, q1⟩ => ?_
  refine thn (hb pins s1 σ H1 _ I1 q1) fun u s2 ⟨y, H2, I2, r2, q2⟩ => ?_
  exact hf v u s2 x y H2 I2 r1 r2 q2

theorem pe_op {op : Operator} {r : R2} (ho : OpR X (binaryOp op) r) (ha : PE X a ta) (hb : PE X b tb) : PE X (.BinOp a op b pos) (tOp r ta tb) := by
  intro pins s σ H Q I h
  exact wpAny_BinOp (binT ha hb I h fun v u s2 x y H2 I2 rx ry q => ho pins s2 σ H2 x y v u Q I2 rx ry q)
theorem pe_un {op : UnaryOp} {r : V → Hp → VK → Prop} (ho : UnR X (unaryOp op) r) (ha : PE X a ta) : PE X (.UnaryOp op a pos) (tUn r ta) := by
  intro pins s σ H Q I h
  exact UnaryOp_ (thn (ha pins s σ H _ I h) fun v s1 ⟨x, H1, I1, r1, q1⟩ => ho pins s1 σ H1 x v Q I1 r1 q1)
/-! ### ints -/
theorem opI {f : Value → Value → Sem Value} {C : Int → Int → Prop} {g : Int → Int → Int}
    (rule : ∀ (i j : Int) (t u : Tok) (s : Shared) (Q : Value → Shared → Prop) (E : Value → Shared → Prop), C i j → Q (.int (g i j) s.toks) { s with toks := s.toks + 1 } → wpAny (model X.prog X.w) X.A (f (.int i t) (.int j u)) Q E s) :
    OpR X f (rI C fun i j => .int (g i j)) := by
  intro pins s σ H x y v u Q I rx ry h
  obtain ⟨i, j, rfl, rfl, hc, q⟩ := h
  obtain ⟨t, rfl⟩ := rx
  obtain ⟨t', rfl⟩ := ry
  exact rule i j t t' s _ _ hc ⟨.int (g i j), H, I.tok _, ⟨_, rfl⟩, q⟩
theorem opI0 {f : Value → Value → Sem Value} {g : Int → Int → Int}
    (rule : ∀ (i j : Int) (t u : Tok) (s : Shared) (Q : Value → Shared → Prop) (E : Value → Shared → Prop), Q (.int (g i j) s.toks) { s with toks := s.toks + 1 } → wpAny (model X.prog X.w) X.A (f (.int i t) (.int j u)) Q E s) :
    OpR X f (rI0 fun i j => .int (g i j)) := by
  intro pins s σ H x y v u Q I rx ry h
  obtain ⟨i, j, rfl, rfl, q⟩ := h
  obtain ⟨t, rfl⟩ := rx
  obtain ⟨t', rfl⟩ := ry
  exact rule i j t t' s _ _ ⟨.int (g i j), H, I.tok _, ⟨_, rfl⟩, q⟩
theorem opB0 {f : Value → Value → Sem Value} {g : Int → Int → Bool}
    (rule : ∀ (i j : Int) (t u : Tok) (s : Shared) (Q : Value → Shared → Prop) (E : Value → Shared → Prop), Q (.bool (g i j)) s → wpAny (model X.prog X.w) X.A (f (.int i t) (.int j u)) Q E s) :
    OpR X f (rI0 fun i j => .bl (g i j)) := by
  intro pins s σ H x y v u Q I rx ry h
  obtain ⟨i, j, rfl, rfl, q⟩ := h
  obtain ⟨t, rfl⟩ := rx
  obtain ⟨t', rfl⟩ := ry
  exact rule i j t t' s _ _ ⟨.bl (g i j), H, I, rfl, q⟩

def CDiv (i j : Int) : Prop := 0 < j ∧ j < 1073741824
def CDivN (i j : Int) : Prop := j ≠ 0 ∧ j.natAbs < 1073741824
def CPow (i j : Int) : Prop := 0 ≤ j ∧ j ≤ 1000000 ∧ i.natAbs < 2 ^ 64
def CMul (i j : Int) : Prop := (-(2 ^ 64) < i ∧ i < 2 ^ 64) ∨ (-(2 ^ 64) < j ∧ j < 2 ^ 64)
theorem CMul.ok {i j : Int} (h : CMul i j) : IntMulOk i j := by
  rcases h with ⟨h1, h2⟩ | ⟨h1, h2⟩
  · exact .of_left (intBits_le_64 h1 h2)
  · exact .of_right (intBits_le_64 h1 h2)
theorem op_add : OpR X (binaryOp .Add) (rI0 fun i j => .int (i + j)) := opI0 fun _ _ _ _ _ _ _ q => add_int q
theorem op_sub : OpR X (binaryOp .Sub) (rI0 fun i j => .int (i - j)) := opI0 fun _ _ _ _ _ _ _ q => sub_int q
theorem op_mul : OpR X (binaryOp .Mult) (rI CMul fun i j => .int (i * j)) := opI fun _ _ _ _ _ _ _ hc q => mul_int q hc.ok
/-- // by a positive divisor -/
theorem op_fdiv : OpR X (binaryOp .FloorDiv) (rI CDiv fun i j => .int (i / j)) := opI fun i j _ _ _ _ _ hc q => by
  have h1 : (0 : Int) < j := hc.1
  have h2 : j < 1073741824 := hc.2
  exact floordiv_int (by omega) (by rw [Int.fdiv_eq_ediv_of_nonneg i (by omega)]; exact q) (.inl (PyProof.noPylong_small (by omega)))
/-- % by a positive divisor of any size -/
theorem op_mod : OpR X (binaryOp .Mod) (rI (fun _ j => 0 < j) fun i j => .int (i % j)) := opI fun i j _ _ _ _ _ hc q => by
  have h1 : (0 : Int) < j := hc
  exact mod_int' (by omega) (by rw [Int.fmod_eq_emod_of_nonneg i (by omega)]; exact q)
theorem op_modN : OpR X (binaryOp .Mod) (rI (fun _ j => j ≠ 0) fun i j => .int (i.fmod j)) := opI fun _ _ _ _ _ _ _ hc q => mod_int' hc q
theorem op_and : OpR X (binaryOp .BitAnd) (rI0 fun i j => .int (Builtin.bitAnd i j)) := opI0 fun _ _ _ _ _ _ _ q => and_int q
theorem op_or : OpR X (binaryOp .BitOr) (rI0 fun i j => .int (Builtin.bitOr i j)) := opI0 fun _ _ _ _ _ _ _ q => or_int q
theorem op_xor : OpR X (binaryOp .BitXor) (rI0 fun i j => .int (Builtin.bitXor i j)) := opI0 fun _ _ _ _ _ _ _ q => xor_int q

theorem unI {f : Value → Sem Value} {g : Int → Int}
    (rule : ∀ (i : Int) (t : Tok) (s : Shared) (Q : Value → Shared → Prop) (E : Value → Shared → Prop), Q (.int (g i) s.toks) { s with toks := s.toks + 1 } → wpAny (model X.prog X.w) X.A (f (.int i t)) Q E s) :
    UnR X f (rU fun i => .int (g i)) := by
  intro pins s σ H x v Q I rx h
  obtain ⟨i, rfl, q⟩ := h
  obtain ⟨t, rfl⟩ := rx
  exact rule i t s _ _ ⟨.int (g i), H, I.tok _, ⟨_, rfl⟩, q⟩
theorem un_neg : UnR X (unaryOp .USub) (rU fun i => .int (-i)) := unI fun _ _ _ _ _ q => neg_int q
/-! ### bools among ints: n += (a < b) -/
end

/-! ### comparisons -/
/-- the scalars that == tells apart as data does -/
def scal : V → V → Bool
  | .non, .non => true | .non, .int _ => true | .int _, .non => true | .non, .bl _ => true | .bl _, .non => true | .non, .str _ => true | .str _, .non => true
  | .int _, .int _ => true | .bl _, .bl _ => true | .str _, .str _ => true | .byt _, .byt _ => true
  | .int _, .str _ => true | .str _, .int _ => true | .bl _, .str _ => true | .str _, .bl _ => true
  | _, _ => false
def rEq : R2 := fun x y H Q => scal x y = true ∧ Q (.bl (decide (x = y))) H
def rNe : R2 := fun x y H Q => scal x y = true ∧ Q (.bl (!decide (x = y))) H

theorem dec_int {i j : Int} : decide (V.int i = V.int j) = (i == j) := by
  rw [Bool.eq_iff_iff]
  simp
theorem dec_bl {i j : Bool} : decide (V.bl i = V.bl j) = (i == j) := by
  rw [Bool.eq_iff_iff]
  simp
theorem dec_str {i j : Str} : decide (V.str i = V.str j) = (i == j) := by
  rw [Bool.eq_iff_iff]
  simp
theorem dec_byt {i j : Array UInt8} : decide (V.byt i = V.byt j) = (i.toList == j.toList) := by
  rw [Bool.eq_iff_iff]
  cases i
  cases j
  simp

section
variable {X : Cx} {a b c : Expr} {ta tb tc : TE} {pos : Pos}
theorem fin_bl {pins : List (Addr × Obj)} {σ : St} {H : Hp} {s : Shared} {Q : VK} {k k' : Bool} (I : Inv X pins σ H s) (q : Q (.bl k) H) (e : k = k') : EP X pins σ Q (.bool k') s := by
  subst e
  exact ⟨.bl k, H, I, rfl, q⟩
theorem op_eq : OpR X (compareOp .Eq) rEq := by
  intro pins s σ H x y v u Q I rx ry h
  obtain ⟨hs, q⟩ := h
  cases x with
  | non =>
    cases rx
    cases y with
    | non => cases ry; exact PySem.EqNone.eq_none_none (fin_bl I q (by simp))
    | bl j => cases ry; exact PySem.EqNone.eq_none_bool (fin_bl I q (by simp))
    | int j => obtain ⟨t', rfl⟩ := ry; exact PySem.EqNone.eq_none_int (fin_bl I q (by simp))
    | str j => obtain ⟨t', rfl⟩ := ry; exact PySem.EqNone.eq_none_str (fin_bl I q (by simp))
    | _ => exact absurd (show false = true from hs) Bool.false_ne_true
  | bl i =>
    cases rx
    cases y with
    | non => cases ry; exact PySem.EqNone.eq_bool_none (fin_bl I q (by simp))
    | bl j => cases ry; exact eq_bool (fin_bl I q dec_bl)
    | str j => obtain ⟨t', rfl⟩ := ry; exact PySem.EqMixed.eq_bool_str (fin_bl I q (by simp))
    | _ => exact absurd (show false = true from hs) Bool.false_ne_true
  | int i =>
    obtain ⟨t, rfl⟩ := rx
    cases y with
    | non => cases ry; exact PySem.EqNone.eq_int_none (fin_bl I q (by simp))
    | int j => obtain ⟨t', rfl⟩ := ry; exact eq_int (fin_bl I q dec_int)
    | str j => obtain ⟨t', rfl⟩ := ry; exact PySem.EqMixed.eq_int_str (fin_bl I q (by simp))
    | _ => exact absurd (show false = true from hs) Bool.false_ne_true
  | str i =>
    obtain ⟨t, rfl⟩ := rx
    cases y with
    | non => cases ry; exact PySem.EqNone.eq_str_none (fin_bl I q (by simp))
    | bl j => cases ry; exact PySem.EqMixed.eq_str_bool (fin_bl I q (by simp))
    | int j => obtain ⟨t', rfl⟩ := ry; exact PySem.EqMixed.eq_str_int (fin_bl I q (by simp))
    | str j => obtain ⟨t', rfl⟩ := ry; exact eq_str (fin_bl I q dec_str)
    | _ => exact absurd (show false = true from hs) Bool.false_ne_true
  | byt i =>
    obtain ⟨t, rfl⟩ := rx
    cases y with
    | byt j => obtain ⟨t', rfl⟩ := ry; exact PySem.W.eq_bytes (fin_bl I q dec_byt)
    | _ => exact absurd (show false = true from hs) Bool.false_ne_true
  | _ => cases y <;> exact absurd (show false = true from hs) Bool.false_ne_true
theorem op_ne : OpR X (compareOp .NotEq) rNe := by
  intro pins s σ H x y v u Q I rx ry h
  obtain ⟨hs, q⟩ := h
  cases x with
  | non =>
    cases rx
    cases y with
    | non => cases ry; exact PySem.EqNone.ne_none_none (fin_bl I q (by simp))
    | bl j => cases ry; exact PySem.EqNone.ne_none_bool (fin_bl I q (by simp))
    | int j => obtain ⟨t', rfl⟩ := ry; exact PySem.EqNone.ne_none_int (fin_bl I q (by simp))
    | str j => obtain ⟨t', rfl⟩ := ry; exact PySem.EqNone.ne_none_str (fin_bl I q (by simp))
    | _ => exact absurd (show false = true from hs) Bool.false_ne_true
  | bl i =>
    cases rx
    cases y with
    | non => cases ry; exact PySem.EqNone.ne_bool_none (fin_bl I q (by simp))
    | bl j => cases ry; exact ne_bool (fin_bl I q (congrArg not dec_bl))
    | str j => obtain ⟨t', rfl⟩ := ry; exact PySem.EqMixed.ne_bool_str (fin_bl I q (by simp))
    | _ => exact absurd (show false = true from hs) Bool.false_ne_true
  | int i =>
    obtain ⟨t, rfl⟩ := rx
    cases y with
    | non => cases ry; exact PySem.EqNone.ne_int_none (fin_bl I q (by simp))
    | int j => obtain ⟨t', rfl⟩ := ry; exact ne_int (fin_bl I q (congrArg not dec_int))
    | str j => obtain ⟨t', rfl⟩ := ry; exact PySem.EqMixed.ne_int_str (fin_bl I q (by simp))
    | _ => exact absurd (show false = true from hs) Bool.false_ne_true
  | str i =>
    obtain ⟨t, rfl⟩ := rx
    cases y with
    | non => cases ry; exact PySem.EqNone.ne_str_none (fin_bl I q (by simp))
    | bl j => cases ry; exact PySem.EqMixed.ne_str_bool (fin_bl I q (by simp))
    | int j => obtain ⟨t', rfl⟩ := ry; exact PySem.EqMixed.ne_str_int (fin_bl I q (by simp))
    | str j => obtain ⟨t', rfl⟩ := ry; exact ne_str (fin_bl I q (congrArg not dec_str))
    | _ => exact absurd (show false = true from hs) Bool.false_ne_true
  | byt i =>
    obtain ⟨t, rfl⟩ := rx
    cases y with
    | byt j => obtain ⟨t', rfl⟩ := ry; exact PySem.W.ne_bytes (fin_bl I q (congrArg not dec_byt))
    | _ => exact absurd (show false = true from hs) Bool.false_ne_true
  | _ => cases y <;> exact absurd (show false = true from hs) Bool.false_ne_true

theorem op_lt : OpR X (compareOp .Lt) (rI0 fun i j => .bl (decide (i < j))) := opB0 fun _ _ _ _ _ _ _ q => lt_int q
theorem op_le : OpR X (compareOp .LtE) (rI0 fun i j => .bl (decide (i ≤ j))) := opB0 fun _ _ _ _ _ _ _ q => le_int q
theorem op_gt : OpR X (compareOp .Gt) (rI0 fun i j => .bl (decide (j < i))) := opB0 fun _ _ _ _ _ _ _ q => gt_int q
/-- is None, is not None: the right side a value none -/
theorem op_isN : OpR X (compareOp .Is) (fun x y H Q => y = .non ∧ Q (.bl (decide (x = .non))) H) := by
  intro pins s σ H x y v u Q I rx ry h
  obtain ⟨rfl, q⟩ := h
  cases ry
  refine is_none_gen (fin_bl I q ?_)
  cases x <;> first
    | (cases rx; rfl)
    | (obtain ⟨t, rfl⟩ := rx; rfl)
theorem op_notN : OpR X (compareOp .IsNot) (fun x y H Q => y = .non ∧ Q (.bl (!decide (x = .non))) H) := by
  intro pins s σ H x y v u Q I rx ry h
  obtain ⟨rfl, q⟩ := h
  cases ry
  refine isnot_none_gen (fin_bl I q ?_)
  cases x <;> first
    | (cases rx; rfl)
    | (obtain ⟨t, rfl⟩ := rx; rfl)

/-- is, is not of two objects that are tracked lists or instances -/
def isObj : HO → Bool
  | .lst _ => true
  | .ins _ _ _ => true
  | _ => false
/-- two rules for one operation: by cases -/
theorem OpR.or {f : Value → Value → Sem Value} {r r' : R2} (h : OpR X f r) (h' : OpR X f r') : OpR X f (fun x y H Q => r x y H Q ∨ r' x y H Q) := by
  intro pins s σ H x y v u Q I rx ry q
  rcases q with q | q
  · exact h pins s σ H x y v u Q I rx ry q
  · exact h' pins s σ H x y v u Q I rx ry q

theorem nomark (b : Expr) {op : CmpOp} (h : op ≠ .In := by decide) (h2 : op ≠ .NotIn := by decide) : behindInMarks op b = false := by
  have e1 : (op == CmpOp.In) = false := by cases op <;> first | rfl | exact absurd rfl h
  have e2 : (op == CmpOp.NotIn) = false := by cases op <;> first | rfl | exact absurd rfl h2
  cases b <;> simp [behindInMarks, e1, e2]
/-- a comparison as a value; hm: nomark b, or (for in, not in) by with_unfolding_all rfl -/
theorem pe_cmpR {op : CmpOp} {r : R2} (ho : OpR X (compareOp op) r) (ha : PE X a ta) (hb : PE X b tb) (hm : behindInMarks op b = false) : PE X (.Compare a [op] [b] pos) (tOp r ta tb) := by
  intro pins s σ H Q I h
  exact wpAny_Compare1 (binT ha hb I h fun v u s2 x y H2 I2 rx ry q => ho pins s2 σ H2 x y v u Q I2 rx ry q) hm
/-- a reading of a value as a test -/
def tTest (t : TE) : TT := fun σ H Q => t σ H fun x H' => ∃ k, x = .bl k ∧ Q k H'
theorem pt_cmpR {op : CmpOp} {r : R2} (ho : OpR X (compareOp op) r) (ha : PE X a ta) (hb : PE X b tb) (hm : behindInMarks op b = false) : PT X (.Compare a [op] [b] pos) (tTest (tOp r ta tb)) := by
  intro pins s σ H Q I h
  refine wpAny_isTrue_Compare1 (thn (ha pins s σ H _ I h) fun v s1 ⟨x, H1, I1, r1, q1⟩ => thn (hb pins s1 σ H1 _ I1 q1) fun u s2 ⟨y, H2, I2, r2, q2⟩ =>
    thn (ho pins s2 σ H2 x y v u _ I2 r1 r2 q2) fun c s3 ⟨z, H3, I3, r3, k, e, q3⟩ => ?_) hm
  subst e
  cases r3
  exact wpAny_truthy_bool ⟨H3, I3, q3⟩
/-- a op1 b op2 c -/
def tChain (r r' : R2) (ta tb tc : TE) : TE := fun σ H Q => ta σ H fun x H1 => tb σ H1 fun y H2 => r x y H2 fun z H3 => ∃ k, z = .bl k ∧
  (if k = true then tc σ H3 fun w' H4 => r' y w' H4 Q else Q (.bl false) H3)
theorem pe_chain {op op' : CmpOp} {r r' : R2} (ho : OpR X (compareOp op) r) (ho' : OpR X (compareOp op') r') (ha : PE X a ta) (hb : PE X b tb) (hc : PE X c tc)
    (hm : lastMarks [op, op'] [b, c] = false := by with_unfolding_all rfl) : PE X (.Compare a [op, op'] [b, c] pos) (tChain r r' ta tb tc) := by
  intro pins s σ H Q I h
  refine Compare_chain (thn (ha pins s σ H _ I h) fun v s1 ⟨x, H1, I1, r1, q1⟩ => chain_link (thn (hb pins s1 σ H1 _ I1 q1) fun u s2 ⟨y, H2, I2, r2, q2⟩ =>
    thn (ho pins s2 σ H2 x y v u _ I2 r1 r2 q2) fun d s3 ⟨z, H3, I3, r3, k, e, q3⟩ => ?_)) hm
  subst e
  cases r3
  refine wpAny_truthy_bool ?_
  cases k with
  | false => exact ite_ff ⟨.bl false, H3, I3, rfl, q3⟩
  | true => exact ite_tt (chain_last (thn (hc pins s3 σ H3 _ I3 q3) fun w' s4 ⟨z', H4, I4, r4, q4⟩ => ho' pins s4 σ H4 y z' u w' Q I4 r2 r4 q4))
/-! ### truth -/
/-- a value's truth by the abstract heap -/
def TruV (K : PySem.W.Frag) (x : V) (H : Hp) (k : Bool) : Prop :=
  match x with
  | .non => k = false
  | .bl b => k = b
  | .int i => k = (i != 0)
  | .str y => y.length ≤ sizeLine ∧ k = ((y.length : Int) != 0)
  | .byt y => y.size ≤ sizeLine ∧ k = ((y.size : Int) != 0)
  | .ref p => (∃ xs, SqL K H p xs ∧ k = !xs.isEmpty) ∨ (∃ xs, SqT K H p xs ∧ k = !xs.isEmpty) ∨ ∃ kvs, H p = some (.dK kvs) ∧ k = !kvs.isEmpty
  | _ => False
theorem line63 : (sizeLine : Nat) < 2 ^ 63 := by rw [sizeLine_eq]; decide
/-! ### strs and bytes -/
def PlainIxT (b : Expr) : Prop := ∀ o i, subscripted b false o i = operate [o, i] (getItem o i)
/-! ### scalar builtins, by CallR -/
theorem vals1 {x : V} {us : List Value} (r : Vals [x] us) : ∃ u, us = [u] ∧ RelV x u := by
  cases r with
  | cons r1 r2 => cases r2; exact ⟨_, rfl, r1⟩
theorem vals2 {x y : V} {us : List Value} (r : Vals [x, y] us) : ∃ u w', us = [u, w'] ∧ RelV x u ∧ RelV y w' := by
  cases r with
  | cons r1 r2 =>
    cases r2 with
    | cons r3 r4 => cases r4; exact ⟨_, _, rfl, r1, r3⟩
theorem call_max2 (hc : X.calm = true) : CallR X (.builtin "max") (fun xs H Q => ∃ i j, xs = [.int i, .int j] ∧ Q (.int (if j > i then j else i)) H) := by
  intro pins s σ H xs us Q I r h
  obtain ⟨i, j, rfl, q⟩ := h
  obtain ⟨u, w', rfl, ⟨t, rfl⟩, ⟨t', rfl⟩⟩ := vals2 r
  refine max_two_ints (I.ok.hd hc) fun h' tk k => ⟨_, H, I.kept k, ?_, q⟩
  by_cases hj : j > i
  · rw [if_pos hj, if_pos hj]; exact ⟨_, rfl⟩
  · rw [if_neg hj, if_neg hj]; exact ⟨_, rfl⟩
theorem call_min2 (hc : X.calm = true) : CallR X (.builtin "min") (fun xs H Q => ∃ i j, xs = [.int i, .int j] ∧ Q (.int (if j < i then j else i)) H) := by
  intro pins s σ H xs us Q I r h
  obtain ⟨i, j, rfl, q⟩ := h
  obtain ⟨u, w', rfl, ⟨t, rfl⟩, ⟨t', rfl⟩⟩ := vals2 r
  refine min_two_ints (I.ok.hd hc) fun h' tk k => ⟨_, H, I.kept k, ?_, q⟩
  by_cases hj : j < i
  · rw [if_pos hj, if_pos hj]; exact ⟨_, rfl⟩
  · rw [if_neg hj, if_neg hj]; exact ⟨_, rfl⟩
theorem call_int1 : CallR X (.type "int") (fun xs H Q => (∃ i, xs = [.int i] ∧ Q (.int i) H) ∨ ∃ k, xs = [.bl k] ∧ Q (.int (if k then 1 else 0)) H) := by
  intro pins s σ H xs us Q I r h
  rcases h with ⟨i, rfl, q⟩ | ⟨k, rfl, q⟩
  · obtain ⟨u, rfl, t, rfl⟩ := vals1 r
    exact call_int_int ⟨.int i, H, I, ⟨_, rfl⟩, q⟩
  · obtain ⟨u, rfl, r1⟩ := vals1 r
    cases r1
    exact call_int_bool ⟨.int (if k then 1 else 0), H, I.tok _, ⟨_, rfl⟩, q⟩
/-- len of a str, a bytes, a list, a tuple -/
def LenV (K : PySem.W.Frag) (x : V) (H : Hp) (n : Nat) : Prop :=
  match x with
  | .str y => y.length ≤ sizeLine ∧ n = y.length
  | .byt y => y.size ≤ sizeLine ∧ n = y.size
  | .ref p => (∃ xs, SqL K H p xs ∧ n = xs.length) ∨ ∃ xs, SqT K H p xs ∧ n = xs.length
  | _ => False
end
end L2

namespace L2
open PySem PySem.Spec PyProof.Rows

/-! ### an instance, its attributes a map -/
structure ObjM (h : Heap) (x dx C : Addr) (mA : Str → Option Value) : Prop where
  obj : h.get? x = some (PySem.W.instObj C dx)
  ns : h.Ns1 dx mA
  ne : dx ≠ x

theorem lookIn_ns {h : Heap} {dx : Addr} {mA : Str → Option Value} (n : h.Ns1 dx mA) : ∃ od, h.get? dx = some od ∧ ∀ name, PySem.W.lookIn name od = some (mA name) := by
  obtain ⟨o, es, ep, ho, hd, hk, _, hm⟩ := n
  refine ⟨o, ho, fun name => ?_⟩
  have e := hm name
  unfold nsFind findBy at e
  rw [← Array.find?_toList] at e
  unfold PySem.W.lookIn
  rw [hd]
  dsimp only
  split
  · rename_i y q
    rw [q] at e
    exact congrArg some e
  · rename_i q
    rw [q] at e
    have a : es.toList.any (·.refKey) = false := by
      rw [List.any_eq_false]
      intro y hy
      obtain ⟨z, t, hkey⟩ := hk y (Array.mem_toList_iff.mp hy)
      simp [DictEntry.refKey, hkey]
    have a' : ¬ es.toList.any (·.refKey) = true := by rw [a]; exact Bool.false_ne_true
    rw [if_neg a']
    exact congrArg some e

theorem ObjM.look {h : Heap} {x dx C : Addr} {mA : Str → Option Value} (I : ObjM h x dx C mA) : ∃ od, PySem.W.InstAt h x (PySem.W.instObj C dx) C (some od) ∧ ∀ name, PySem.W.lookIn name od = some (mA name) :=
  let ⟨od, ho, hl⟩ := lookIn_ns I.ns
  ⟨od, ⟨I.obj, rfl, rfl, ho⟩, hl⟩

section
variable {prog : Program} {w : World} {A : Around} {E : Value → Shared → Prop} {s : Shared} {K : PySem.W.Frag} {x dx C f : Addr} {mA : Str → Option Value} {name : Str} {v : Value}

theorem get_map {expr : Bool} {Q : Value → Shared → Prop} (X : K.In s.heap) (I : ObjM s.heap x dx C mA) (hg : PySem.W.plainGet K C name = true) (hh : PySem.W.hasDictIn K C = true)
    (ha : PySem.W.findIn K (.ref C) name = some none) (hv : mA name = some v) (hv' : PySem.W.handedIn v = true) (h : Q v { s with toks := s.toks + 1 }) :
    wpAny (model prog w) A (getAttr (.ref x) name expr) Q E s := by
  obtain ⟨od, J, hl⟩ := I.look
  exact PySem.W.get_value X J (PySem.W.plainGet_of hg).1 (PySem.W.findObj_own hh ha rfl (by rw [hl, hv])) hv' h

theorem get_meth {pl : Sem Bool} {Q : Value × List Value → Shared → Prop} (X : K.In s.heap) (I : ObjM s.heap x dx C mA) (hg : PySem.W.plainGet K C name = true)
    (hf : PySem.W.findIn K (.ref C) name = some (some (.ref f))) (ht : PySem.W.isFn K (.ref f) = true) (hv : mA name = none) (h : Q (.ref f, [.ref x]) s) :
    wpAny (model prog w) A (getMethod (.ref x) name pl) Q E s := by
  obtain ⟨od, J, hl⟩ := I.look
  exact PySem.W.method_fn X J (PySem.W.plainGet_of hg).1 (PySem.W.plainGet_of hg).2 hf (beq_iff_eq.mp ht) (by show (PySem.W.lookIn name od).map (·.isSome) = some false; rw [hl, hv]; rfl) h

theorem set_map {ns : List Str} {Q : Unit → Shared → Prop} (X : K.In s.heap) (I : ObjM s.heap x dx C mA)
    (hs : PySem.W.findIn K (.ref C) "__setattr__" = some (some (.builtin "object.__setattr__"))) (hp : PySem.W.plainOver K C = true) (ht : PySem.W.takerIn K C name = some none) (hh : PySem.W.hasDictIn K C = true)
    (hw : PySem.Within mA ns) (hsz : ns.length ≤ sizeLine)
    (h : ∀ h', ObjM h' x dx C (fun y => if y = name then some v else mA y) → Heap.SameBut dx s.heap h' → Q () { s with heap := h', toks := s.toks + 2 }) :
    wpAny (model prog w) A (setAttr (.ref x) name v) Q E s := by
  obtain ⟨od, J, hl⟩ := I.look
  refine PySem.W.set_plain X J hs (PySem.W.osa_open (s := { s with toks := s.toks + 1 }) (r := none) X J hp ht fun b => ?_)
  obtain ⟨cd, hc, hd'⟩ := PySem.W.any_some hh
  have hx : s.heap.get? x = some ⟨.ref C, some dx, .plain, #[]⟩ := I.obj
  refine wpAny_bind (wpAny_pure (wpAny_bind (wpAny_bind (wpAny_loadPart hx (wpAny_bind (PySem.W.Looks.here (s := { s with toks := s.toks + 1 }) (PySem.W.looks_clsIn X hc) ?_))))))
  rw [hd']
  refine wpAny_pure (a := some dx) (wpAny_bind (wpAny_pure (wpAny_bind ?_)))
  refine wpAny_nsSet1 (s := { s with toks := s.toks + 1 }) I.ns fun h' hn2 hs2 => ?_
  obtain ⟨oD, esD, epD, hoD, hdD, hcD⟩ := hn2.count (PySem.Within.cons name v hw)
  refine wpAny_bind (wpAny_lookBehind hoD (by rw [hdD]; exact pastItsLine_dict (Nat.le_trans hcD (by rw [List.length_cons]; omega))) ?_)
  exact wpAny_pure (h _ ⟨(hs2.2 _ (Ne.symm I.ne)).trans I.obj, hn2, I.ne⟩ hs2)

/-- C(..): the dict at the heap's end, the instance behind it; then its __init__ -/
theorem make_map {R : Result → Shared → Prop} {vs : List Value} {kw : List (Str × Value)} (X : K.In s.heap) (hm : PySem.W.makesIn K C = true)
    (hi : PySem.W.findIn K (.ref C) "__init__" = some (some (.ref f))) (hf : PySem.W.typeIn K (.ref f) = some (.type "function"))
    (h : codeAny (model prog w) (A.under (.builtin "type.__call__" ⟨.ref C :: vs, kw⟩)) (.call (.ref f) ⟨.ref (s.heap.objs.size + 1) :: vs, kw⟩) (PySem.W.InitBack (s.heap.objs.size + 1) R)
      { s with heap := (s.heap.push PySem.W.emptyDict).push (PySem.W.instObj C s.heap.objs.size) }) :
    codeAny (model prog w) A (.call (.ref C) ⟨vs, kw⟩) R s := by
  obtain ⟨hh, g, d, t, os⟩ := s
  exact PySem.W.make_core (PySem.W.makes_of X hm) (PySem.W.looks_findIn X hi) (fun self => PySem.W.bind_fn X self hf) (.inl rfl) h
/-- C() where there is no __init__ but object's -/
theorem make_map0 {R : Result → Shared → Prop} (X : K.In s.heap) (hm : PySem.W.makesIn K C = true)
    (hi : PySem.W.findIn K (.ref C) "__init__" = some (some (.builtin "object.__init__")))
    (hb : ∀ self, PySem.W.Looks (model prog w) s.heap (bindSpecial (.builtin "object.__init__") self) (.builtin "object.__init__", [self]))
    (h : codeAny (model prog w) (A.under (.builtin "type.__call__" ⟨[.ref C], []⟩)) (.call (.builtin "object.__init__") ⟨[.ref (s.heap.objs.size + 1)], []⟩) (PySem.W.InitBack (s.heap.objs.size + 1) R)
      { s with heap := (s.heap.push PySem.W.emptyDict).push (PySem.W.instObj C s.heap.objs.size) }) :
    codeAny (model prog w) A (.call (.ref C) ⟨[], []⟩) R s := by
  obtain ⟨hh, g, d, t, os⟩ := s
  exact PySem.W.make_core (PySem.W.makes_of X hm) (PySem.W.looks_findIn X hi) hb (.inr ⟨rfl, rfl⟩) h
end

/-! ### the attributes as a list of pairs -/
def putF (f : Str) (v : V) : List (Str × V) → List (Str × V)
  | [] => [(f, v)]
  | (g, x) :: r => if g = f then (g, v) :: r else (g, x) :: putF f v r
theorem lookup_putF (f g : Str) (v : V) : ∀ fs : List (Str × V), (putF f v fs).lookup g = if g = f then some v else fs.lookup g
  | [] => by
    show List.lookup g [(f, v)] = _
    by_cases h : g = f
    · have hb : (g == f) = true := beq_iff_eq.mpr h
      simp only [List.lookup, hb, if_pos h]
    · have hb : (g == f) = false := beq_eq_false_iff_ne.mpr h
      simp only [List.lookup, hb, if_neg h]
  | (k, x) :: r => by
    have ih := lookup_putF f g v r
    rw [show putF f v ((k, x) :: r) = (if k = f then (k, v) :: r else (k, x) :: putF f v r) from rfl]
    by_cases hk : k = f
    · rw [if_pos hk]
      by_cases h : g = k
      · have hb : (g == k) = true := beq_iff_eq.mpr h
        simp only [List.lookup, hb, if_pos (h.trans hk)]
      · have hb : (g == k) = false := beq_eq_false_iff_ne.mpr h
        simp only [List.lookup, hb, if_neg (fun e : g = f => h (e.trans hk.symm))]
    · rw [if_neg hk]
      by_cases h : g = k
      · have hb : (g == k) = true := beq_iff_eq.mpr h
        simp only [List.lookup, hb, if_neg (fun e : g = f => hk (h.symm.trans e))]
      · have hb : (g == k) = false := beq_eq_false_iff_ne.mpr h
        simp only [List.lookup, hb]
        exact ih
theorem keys_putF (f : Str) (v : V) : ∀ fs : List (Str × V), f ∈ (putF f v fs).map (·.1) ∧ ∀ g, g ∈ fs.map (·.1) → g ∈ (putF f v fs).map (·.1)
  | [] => ⟨by simp [putF], fun g h => by simp at h⟩
  | (k, x) :: r => by
    obtain ⟨i1, i2⟩ := keys_putF f v r
    rw [show putF f v ((k, x) :: r) = (if k = f then (k, v) :: r else (k, x) :: putF f v r) from rfl]
    by_cases hk : k = f
    · rw [if_pos hk]
      subst hk
      exact ⟨by simp, fun g h => by simpa using h⟩
    · rw [if_neg hk]
      refine ⟨?_, fun g h => ?_⟩
      · rw [List.map_cons]
        exact List.mem_cons_of_mem _ i1
      · rw [List.map_cons] at h ⊢
        rcases List.mem_cons.mp h with e | e
        · exact List.mem_cons.mpr (.inl e)
        · exact List.mem_cons_of_mem _ (i2 g e)
theorem length_putF (f : Str) (v : V) : ∀ fs : List (Str × V), (putF f v fs).length ≤ fs.length + 1
  | [] => by simp [putF]
  | (k, x) :: r => by
    have ih := length_putF f v r
    rw [show putF f v ((k, x) :: r) = (if k = f then (k, v) :: r else (k, x) :: putF f v r) from rfl]
    by_cases hk : k = f
    · rw [if_pos hk, List.length_cons, List.length_cons]; omega
    · rw [if_neg hk, List.length_cons, List.length_cons]; omega

theorem RelO.some_of {v : V} {o : Option Value} (r : RelO (some v) o) : ∃ u, o = some u ∧ RelV v u := by
  cases o with
  | none => exact (show False from r).elim
  | some u => exact ⟨u, rfl, r⟩
theorem RelO.none_of {o : Option Value} (r : RelO none o) : o = none := by
  cases o with
  | none => rfl
  | some u => exact (show False from r).elim
theorem handed_of {v : V} {u : Value} (r : RelV v u) : PySem.W.handedIn u = true := by
  cases v with
  | non => cases (show u = Value.none from r); rfl
  | bl b => cases (show u = Value.bool b from r); rfl
  | int i => obtain ⟨t, e⟩ := (show ∃ t, u = Value.int i t from r); cases e; rfl
  | str x => obtain ⟨t, e⟩ := (show ∃ t, u = Value.str x t from r); cases e; rfl
  | byt b => obtain ⟨t, e⟩ := (show ∃ t, u = Value.bytes b t from r); cases e; rfl
  | flt b => obtain ⟨t, e⟩ := (show ∃ t, u = Value.float b t from r); cases e; rfl
  | ref a => cases (show u = Value.ref a from r); rfl
  | ty n => cases (show u = Value.type n from r); rfl

section
variable {P : Program} {w : World} {H H' : Hp} {h h' : Heap} {a C dx : Addr} {fs fs' : List (Str × V)}
theorem ins_get (hok : HOk P w H h) (e : H a = some (.ins C dx fs)) : ∃ mA, ObjM h a dx C mA ∧ (∀ f, RelO (fs.lookup f) (mA f)) ∧ PySem.Within mA (fs.map (·.1)) ∧ fs.length ≤ 1000 ∧ H dx = some (.own a) := by
  obtain ⟨d, z, ne, ob, mA, n, r, q⟩ := (show ObjOk P w H h a (.ins C dx fs) from hok a _ e)
  exact ⟨mA, ⟨ob, n, ne⟩, r, q, z, d⟩
end

/-! ### what of the text a class must have -/
structure Cls (K : PySem.W.Frag) (C : Addr) : Prop where
  pg : PySem.W.plainGet K C Str.empty = true
  hd : PySem.W.hasDictIn K C = true
  po : PySem.W.plainOver K C = true
  sa : PySem.W.findIn K (.ref C) "__setattr__" = some (some (.builtin "object.__setattr__"))
theorem Cls.get {K : PySem.W.Frag} {C : Addr} (c : Cls K C) (f : Str) : PySem.W.plainGet K C f = true := c.pg
/-- no class of it has the name -/
def NoAttr (K : PySem.W.Frag) (C : Addr) (f : Str) : Prop := PySem.W.findIn K (.ref C) f = some none
theorem NoAttr.taker {K : PySem.W.Frag} {C : Addr} {f : Str} (n : NoAttr K C f) : PySem.W.takerIn K C f = some none := by
  unfold PySem.W.takerIn
  rw [show PySem.W.findIn K (.ref C) f = some none from n]
  rfl
/-- a constant of the class -/
structure Con (K : PySem.W.Frag) (C : Addr) (f : Str) (v : V) (u : Value) : Prop where
  at_ : PySem.W.findIn K (.ref C) f = some (some u)
  rel : RelV v u
  get : PySem.W.specialIn K u "__get__" = some none
  cp : PySem.W.copiedNames.contains f = false
/-- a method: a plain def of the class or of one above it -/
structure Meth (K : PySem.W.Frag) (C : Addr) (m : Str) (f : Addr) : Prop where
  at_ : PySem.W.findIn K (.ref C) m = some (some (.ref f))
  fn : PySem.W.isFn K (.ref f) = true
  kp : PySem.W.keepIn K (.ref f) = true

section
variable {X : Cx} {pins : List (Addr × Obj)} {σ : St} {H : Hp} {s : Shared} {a C dx : Addr} {fs : List (Str × V)} {f : Str} {v : V} {A : Around} {E : Value → Shared → Prop}

theorem getattr_ok {b : Bool} {Q : Value → Shared → Prop} (I : Inv X pins σ H s) (e : H a = some (.ins C dx fs)) (c : Cls X.K C) (n : NoAttr X.K C f) (l : fs.lookup f = some v)
    (h : ∀ u s', Inv X pins σ H s' → RelV v u → Q u s') : wpAny (model X.prog X.w) A (getAttr (.ref a) f b) Q E s := by
  obtain ⟨mA, O, r, _, _, _⟩ := ins_get I.hok e
  obtain ⟨u, hu, ru⟩ := RelO.some_of (v := v) (o := mA f) (by rw [← l]; exact r f)
  exact get_map I.kIn O (c.get f) c.hd n hu (handed_of ru) (h u _ (I.tok _) ru)

theorem getmeth_ok {m : Str} {g : Addr} {pl : Sem Bool} {Q : Value × List Value → Shared → Prop} (I : Inv X pins σ H s) (e : H a = some (.ins C dx fs)) (c : Cls X.K C) (k : Meth X.K C m g) (l : fs.lookup m = none)
    (h : Q (.ref g, [.ref a]) s) : wpAny (model X.prog X.w) A (getMethod (.ref a) m pl) Q E s := by
  obtain ⟨mA, O, r, _, _, _⟩ := ins_get I.hok e
  have hn : mA m = none := RelO.none_of (by rw [← l]; exact r m)
  exact get_meth I.kIn O (c.get m) k.at_ k.fn hn h

theorem setattr_ok {y : V} {u : Value} {Q : Unit → Shared → Prop} (I : Inv X pins σ H s) (e : H a = some (.ins C dx fs)) (c : Cls X.K C) (n : NoAttr X.K C f) (hl : fs.length < 1000) (ry : RelV y u)
    (h : ∀ s', Inv X pins σ (upd H a (.ins C dx (putF f y fs))) s' → Q () s') : wpAny (model X.prog X.w) A (setAttr (.ref a) f u) Q E s := by
  obtain ⟨mA, O, r, wi, _, ho⟩ := ins_get I.hok e
  have hz : (fs.map (·.1)).length ≤ sizeLine := by rw [List.length_map, sizeLine_eq]; omega
  refine set_map I.kIn O c.sa c.po n.taker c.hd wi hz fun h' O' sb => h _ ?_
  have hd : ∃ o, h'.get? dx = some o := let ⟨o, _, _, e', _⟩ := O'.ns; ⟨o, e'⟩
  refine I.write (x := a) (e := dx) (by rw [e]; exact True.intro) (.inr ho) (fun b q hb z => (sb.2 b hb).trans z) hd ?_
  refine ⟨by rw [upd_ne O.ne]; exact ho, ?_, O.ne, O'.obj, _, O'.ns, fun g => ?_, fun g hg => ?_⟩
  · have := length_putF f y fs; omega
  · show RelO ((putF f y fs).lookup g) (if g = f then some u else mA g)
    rw [lookup_putF]
    by_cases q : g = f
    · rw [if_pos q, if_pos q]; exact ry
    · rw [if_neg q, if_neg q]; exact r g
  · by_cases q : g = f
    · rw [q]; exact (keys_putF f y fs).1
    · refine (keys_putF f y fs).2 g (wi g fun z => hg ?_)
      show (if g = f then some u else mA g) = none
      rw [if_neg q]; exact z

/-- a new instance, tracked, without attributes -/
theorem Inv.made (I : Inv X pins σ H s) : Inv X pins σ (upd (upd H s.heap.objs.size (.own (s.heap.objs.size + 1))) (s.heap.objs.size + 1) (.ins C s.heap.objs.size []))
    { s with heap := (s.heap.push PySem.W.emptyDict).push (PySem.W.instObj C s.heap.objs.size) } := by
  have e1 : (s.heap.push PySem.W.emptyDict).get? s.heap.objs.size = some PySem.W.emptyDict := Heap.get?_push_size s.heap rfl
  have e2 : ((s.heap.push PySem.W.emptyDict).push (PySem.W.instObj C s.heap.objs.size)).get? (s.heap.objs.size + 1) = some (PySem.W.instObj C s.heap.objs.size) := by
    have := Heap.get?_push_size (s.heap.push PySem.W.emptyDict) (o := PySem.W.instObj C s.heap.objs.size) rfl
    rwa [Heap.size_push] at this
  have e3 : (s.heap.push PySem.W.emptyDict).Ns s.heap.objs.size (fun _ => none) := ⟨PySem.W.emptyDict, #[], _, e1, rfl, (fun e he => absurd he (by simp)), fun _ => rfl⟩
  have I1 := I.laid (a := s.heap.objs.size) (o := .own (s.heap.objs.size + 1)) (h' := s.heap.push PySem.W.emptyDict) (t' := s.toks) (fun b u q => Heap.get?_push_of_some _ q) (Nat.le_refl _) ⟨_, e1⟩
  refine I1.laid (a := s.heap.objs.size + 1) (o := .ins C s.heap.objs.size []) (t' := s.toks) (fun b u q => Heap.get?_push_of_some _ q) (Nat.le_of_eq (Heap.size_push _ _)) ?_
  have ne : s.heap.objs.size ≠ s.heap.objs.size + 1 := Nat.ne_of_lt (Nat.lt_succ_self _)
  refine ⟨by rw [upd_ne ne, upd_same], Nat.zero_le _, ne, e2, fun _ => none, (Heap.Ns1.of_empty e3).at fun o q => Heap.get?_push_of_some _ q, fun _ => True.intro, fun y hy => absurd rfl hy⟩

/-- e.f where nothing but the object is asked: through attributeBase (super) and the last hold -/
theorem attr_of {prog : Program} {w : World} {env : Env} {e : Expr} {f : Str} {pos : Pos} {s : Shared} {Q : Value → Shared → Prop} (hb : attributeBase e f env (eval e env) = eval e env)
    (h : wpAny (model prog w) A (eval e env) (fun o s₁ => wpAny (model prog w) A (getAttr o f true) Q E s₁) E s) : wpAny (model prog w) A (eval (.Attribute e f pos) env) Q E s :=
  Attribute_any_ h (by rw [arm_eval_Attribute, hb])
end

/-! ### readings and rules -/
/-- e.f, an attribute of the instance -/
def tFld (K : PySem.W.Frag) (ta : TE) (f : Str) : TE := fun σ H Q => ta σ H fun x H1 => ∃ a C dx fs v, x = .ref a ∧ H1 a = some (.ins C dx fs) ∧ Cls K C ∧ NoAttr K C f ∧ fs.lookup f = some v ∧ Q v H1
/-- e.f, a constant of the class -/
def tCon (K : PySem.W.Frag) (ta : TE) (f : Str) : TE := fun σ H Q => ta σ H fun x H1 => ∃ a C dx fs v u, x = .ref a ∧ H1 a = some (.ins C dx fs) ∧ Cls K C ∧ Con K C f v u ∧ fs.lookup f = none ∧ Q v H1
/-- e.f = value -/
def sFld (K : PySem.W.Frag) (ta tv : TE) (f : Str) : TS := fun D σ H => tv σ H fun y H1 => ta σ H1 fun x H2 => ∃ a C dx fs, x = .ref a ∧ H2 a = some (.ins C dx fs) ∧ Cls K C ∧ NoAttr K C f ∧ fs.length < 1000 ∧
  D.nx σ (upd H2 a (.ins C dx (putF f y fs)))
/-- an augmented operator on two values -/
def InOp (X : Cx) (op : Operator) (rd : V → V → Hp → VK → Prop) : Prop :=
  ∀ (pins : List (Addr × Obj)) (s : Shared) (σ : St) (H : Hp) (x y : V) (u v : Value) (Q : VK), Inv X pins σ H s → RelV x u → RelV y v → rd x y H Q → wpAny (model X.prog X.w) X.A (inplaceOp op u v) (EP X pins σ Q) X.xe s
/-- e.f op= value -/
def sFldAug (K : PySem.W.Frag) (ta tv : TE) (rd : V → V → Hp → VK → Prop) (f : Str) : TS := fun D σ H => ta σ H fun x H1 => ∃ a C dx fs v, x = .ref a ∧ H1 a = some (.ins C dx fs) ∧ Cls K C ∧ NoAttr K C f ∧ fs.lookup f = some v ∧
  tv σ H1 fun y H2 => rd v y H2 fun z H3 => ∃ dx' fs', H3 a = some (.ins C dx' fs') ∧ fs'.length < 1000 ∧ D.nx σ (upd H3 a (.ins C dx' (putF f z fs')))

section
variable {X : Cx} {o e value : Expr} {f : Str} {pos pos' tpos : Pos} {ta tv : TE}
theorem pe_fld (he : PE X e ta) (hb : attributeBase e f X.env (eval e X.env) = eval e X.env) : PE X (.Attribute e f pos) (tFld X.K ta f) := by
  intro pins s σ H Q I h
  refine attr_of hb (thn (he pins s σ H _ I h) fun u s1 ⟨x, H1, I1, rx, a, C, dx, fs, v, ex, ea, c, n, l, q⟩ => ?_)
  subst ex
  obtain rfl : u = Value.ref a := rx
  exact getattr_ok I1 ea c n l fun u' s2 I2 ru => ⟨v, H1, I2, ru, q⟩
theorem ps_fld (ha : PE X o ta) (hv : PE X value tv) (hs : swapsWith value (some (.Attribute o f pos')) pos.line X.env = pure false) : PS X (.Assign [.Attribute o f pos'] value pos) (sFld X.K ta tv f) := by
  intro pins s σ H D I h
  refine plainObj_wpAny_Assign_Attribute (thn (hv pins s σ H _ I h) fun u s1 ⟨y, H1, I1, ry, q⟩ => thn (ha pins s1 σ H1 _ I1 q) fun ov s2 ⟨x, H2, I2, rx, a, C, dx, fs, ex, ea, c, n, l, q2⟩ => ?_) hs
  subst ex
  obtain rfl : ov = Value.ref a := rx
  exact setattr_ok I2 ea c n l ry fun s3 I3 => ⟨σ, _, I3, q2⟩
def rAdd : V → V → Hp → VK → Prop := fun x y H Q => ∃ i j, x = .int i ∧ y = .int j ∧ Q (.int (i + j)) H
def rSub : V → V → Hp → VK → Prop := fun x y H Q => ∃ i j, x = .int i ∧ y = .int j ∧ Q (.int (i - j)) H
end

/-! ### isinstance -/
section
variable {X : Cx} {pins : List (Addr × Obj)} {σ : St} {H : Hp} {s : Shared} {A : Around} {E : Value → Shared → Prop} {Q : Value → Shared → Prop} {c : Value} {b : Bool}
/-- the type of a value, as the fragment's deciders take it; for an instance its class -/
inductive TyOf (K : PySem.W.Frag) (H : Hp) : V → Value → Prop where
  | non : TyOf K H .non (.type "NoneType")
  | bl (x : Bool) : TyOf K H (.bl x) (.type "bool")
  | int (i : Int) : TyOf K H (.int i) (.type "int")
  | str (x : Str) : TyOf K H (.str x) (.type "str")
  | flt (x : UInt64) : TyOf K H (.flt x) (.type "float")
  | lst {a : Addr} {xs : List V} (e : H a = some (.lst xs)) : TyOf K H (.ref a) (.type "list")
  | frz {a : Addr} {o : Obj} {xs : List V} (e : H a = some (.frz o (.lst xs))) : TyOf K H (.ref a) (.type "list")
  | tup {a : Addr} {xs : List V} (e : H a = some (.tup xs)) : TyOf K H (.ref a) (.type "tuple")
  | dK {a : Addr} {kvs : List (Key × V)} (e : H a = some (.dK kvs)) : TyOf K H (.ref a) (.type "dict")
  | dT {a : Addr} {kvs : List (List Key × V)} (e : H a = some (.dT kvs)) : TyOf K H (.ref a) (.type "dict")
  | ins {a C dx : Addr} {fs : List (Str × V)} (e : H a = some (.ins C dx fs)) (cl : Cls K C) (ha : PySem.W.findIn K (.ref C) "__class__" = some (some (.builtin "object.__class__")))
      (hn : PySem.W.specialIn K (.builtin "object.__class__") "__get__" = some (some (.builtin "getset_descriptor.__get__"))) (htk : PySem.W.takesIn K (.builtin "object.__class__") = some true)
      (hm : PySem.W.mroIn K C (.type "object") = some true) : TyOf K H (.ref a) (.ref C)
/-- isinstance(x, c) for one class c, a built-in or an own one: kitOne's answer -/
theorem isinst_ok {x : V} {u t : Value} (I : Inv X pins σ H s) (rx : RelV x u) (ty : TyOf X.K H x t) (e : PySem.W.kitOne X.K t c = some b) (h : ∀ tk, Q (.bool b) { s with toks := tk }) :
    wpAny (model X.prog X.w) A (call (.builtin "isinstance") [u, c]) Q E s := by
  cases ty with
  | non => cases (show u = Value.none from rx); exact PySem.W.kia_one PySem.W.kitx_none I.kIn True.intro e (fun z => nomatch z) h
  | bl y => cases (show u = Value.bool y from rx); exact PySem.W.kia_one PySem.W.kitx_bool I.kIn True.intro e (fun z => nomatch z) h
  | int i => obtain ⟨t, q⟩ := (show ∃ t, u = Value.int i t from rx); cases q; exact PySem.W.kia_one PySem.W.kitx_int I.kIn True.intro e (fun z => nomatch z) h
  | str y => obtain ⟨t, q⟩ := (show ∃ t, u = Value.str y t from rx); cases q; exact PySem.W.kia_one PySem.W.kitx_str I.kIn True.intro e (fun z => nomatch z) h
  | flt y => obtain ⟨t, q⟩ := (show ∃ t, u = Value.float y t from rx); cases q; exact PySem.W.kia_one PySem.W.kitx_float I.kIn True.intro e (fun z => nomatch z) h
  | @lst a xs ea =>
    cases (show u = Value.ref a from rx)
    obtain ⟨_, _, n, _, h1⟩ := (show ObjOk X.prog X.w H s.heap a (.lst xs) from I.hok a _ ea)
    exact PySem.W.kia_one PySem.W.kitx_list I.kIn ⟨_, h1, rfl⟩ e (fun z => nomatch z) h
  | @frz a ob xs ea =>
    cases (show u = Value.ref a from rx)
    obtain ⟨_, _, _, n, _, h1⟩ := (show ObjOk X.prog X.w H s.heap a (.frz ob (.lst xs)) from I.hok a _ ea)
    exact PySem.W.kia_one PySem.W.kitx_list I.kIn ⟨_, h1, rfl⟩ e (fun z => nomatch z) h
  | @tup a xs ea =>
    cases (show u = Value.ref a from rx)
    obtain ⟨_, _, _, p⟩ := (show ObjOk X.prog X.w H s.heap a (.tup xs) from I.hok a _ ea)
    obtain ⟨o, h1, h2, _⟩ := p
    exact PySem.W.kia_one PySem.W.kitx_tuple I.kIn ⟨o, h1, h2⟩ e (fun z => nomatch z) h
  | @dK a kvs ea =>
    cases (show u = Value.ref a from rx)
    obtain ⟨_, _, vs, _, p⟩ := (show ObjOk X.prog X.w H s.heap a (.dK kvs) from I.hok a _ ea)
    obtain ⟨o, es, ep, h1, h2, _⟩ := p
    exact PySem.W.kia_one PySem.W.kitx_dict I.kIn ⟨o, h1, h2.1⟩ e (fun z => nomatch z) h
  | @dT a kvs ea =>
    cases (show u = Value.ref a from rx)
    obtain ⟨_, _, xs, _, o, es, ep, h1, h2, _⟩ := (show ObjOk X.prog X.w H s.heap a (.dT kvs) from I.hok a _ ea)
    exact PySem.W.kia_one PySem.W.kitx_dict I.kIn ⟨o, h1, h2.1⟩ e (fun z => nomatch z) h
  | @ins a C dx fs ea cl ha hn htk hm =>
    cases (show u = Value.ref a from rx)
    obtain ⟨mA, O, _⟩ := ins_get I.hok ea
    obtain ⟨od, J, _⟩ := O.look
    exact PySem.W.kia_one (PySem.W.kitx_own (cl.get _) cl.hd ha hn htk hm) I.kIn J e (fun z => nomatch z) h
end
end L2

namespace L2
open PySem PySem.Spec PyProof.Rows

/-! ### room -/
structure Room (k : Nat) (A : Around) : Prop where
  hd : A.handled = none
  dp : A.depth + 3 * k + 5 < recursionLimit
  un : A.units + 16 * k + 200 < cLine
theorem Room.mono {j k : Nat} {A : Around} (r : Room k A) (h : j ≤ k) : Room j A := ⟨r.hd, by have := r.dp; omega, by have := r.un; omega⟩
theorem Room.deeper {k : Nat} {A : Around} (r : Room (k + 1) A) (env : Env) : Room k (A.deeper env) :=
  ⟨r.hd, by have := r.dp; show A.depth + 1 + 3 * k + 5 < _; omega, by have := r.un; show A.units + 3 + 16 * k + 200 < _; omega⟩
theorem make_depth {A : Around} {C : Addr} {us : List Value} {kw : List (Str × Value)} : (A.under (.builtin "type.__call__" ⟨.ref C :: us, kw⟩)).depth = A.depth + 1 := by
  first | rfl | simp [Around.under, Code.weight, Code.isCreation, Code.isGuard, Code.isCaller, Code.frames, Code.isFrame, guardIds]
theorem make_units {A : Around} {C : Addr} {us : List Value} {kw : List (Str × Value)} : (A.under (.builtin "type.__call__" ⟨.ref C :: us, kw⟩)).units = A.units + 1 := by
  first | rfl | simp [Around.under, Code.cUnits, Code.frames, Code.isFrame]
theorem Room.make {k : Nat} {A : Around} (r : Room (k + 1) A) (C : Addr) (us : List Value) (kw : List (Str × Value)) : Room k (A.under (.builtin "type.__call__" ⟨.ref C :: us, kw⟩)) :=
  ⟨r.hd, by have := r.dp; rw [make_depth]; omega, by have := r.un; rw [make_units]; omega⟩
theorem Room.depth {k : Nat} {A : Around} (r : Room k A) : A.depth < recursionLimit := by have := r.dp; omega
theorem Room.units {k : Nat} {A : Around} (r : Room k A) : A.units + 64 < cLine := by have := r.un; omega
/-! ### argument lists and displays -/
def tNil : TA := fun _ H Q => Q [] H
def tCons (ta : TE) (tr : TA) : TA := fun σ H Q => ta σ H fun x H1 => tr σ H1 fun xs H2 => Q (x :: xs) H2
section
variable {X : Cx} {e : Expr} {es : List Expr} {te : TE} {t : TA} {pos : Pos}
theorem pa_nil : PA X [] tNil := fun _ _ _ _ H Q I h => Calls.spliced_nil ⟨[], H, I, .nil, h⟩
theorem pa_cons (ha : PE X e te) (hr : PA X es t) (hs : starEach (e :: es) X.env = (false, eval e X.env) :: starEach es X.env := by rfl) : PA X (e :: es) (tCons te t) := by
  intro pos pins s σ H Q I h
  rw [hs]
  show wpAny _ _ (spliced ((false, eval e X.env) :: backTo pos (starEach es X.env))) _ _ s
  refine Calls.spliced_cons (thn (ha pins s σ H _ I h) fun u s1 ⟨x, H1, I1, r1, q1⟩ => ?_)
  exact thn (hr pos pins s1 σ H1 _ I1 q1) fun us s2 ⟨xs, H2, I2, r2, q2⟩ => ⟨x :: xs, H2, I2, .cons r1 r2, q2⟩

/-- a tuple, a list of written items -/
def tTup (t : TA) : TE := fun σ H Q => t σ H fun xs H1 => xs.length ≤ sizeLine ∧ ∀ p, H1 p = none → Q (.ref p) (upd H1 p (.tup xs))
def tLst (t : TA) : TE := fun σ H Q => t σ H fun xs H1 => xs.length ≤ sizeLine ∧ ∀ p, H1 p = none → Q (.ref p) (upd H1 p (.lst xs))
theorem pe_tup {x1} (h : PA X es t) : PE X (.Tuple es x1 pos) (tTup t) := by
  intro pins s σ H Q I hq
  refine wpAny_Tuple_spliced (thn (h pos pins s σ H _ I hq) fun us s1 ⟨xs, H1, I1, r, z, q⟩ => ⟨by rw [← r.length]; exact z, ?_⟩)
  have hf : H1 s1.heap.objs.size = none := I1.hok.fresh (Nat.le_refl _)
  refine ⟨.ref s1.heap.objs.size, upd H1 s1.heap.objs.size (.tup xs), I1.laid (t' := s1.toks) (fun b u e => Heap.get?_push_of_some _ e) (Nat.le_refl _) ?_, rfl, q _ hf⟩
  exact ⟨z, us, r, ⟨_, Heap.get?_push_size _ rfl, rfl, _, rfl⟩⟩
theorem pe_lst (h : PA X es t) : PE X (.List es pos) (tLst t) := by
  intro pins s σ H Q I hq
  refine wpAny_List_spliced (thn (h pos pins s σ H _ I hq) fun us s1 ⟨xs, H1, I1, r, z, q⟩ => ⟨by rw [← r.length]; exact z, ?_⟩)
  have hf : H1 s1.heap.objs.size = none := I1.hok.fresh (Nat.le_refl _)
  refine ⟨.ref s1.heap.objs.size, upd H1 s1.heap.objs.size (.lst xs), I1.laid (t' := s1.toks) (fun b u e => Heap.get?_push_of_some _ e) (Nat.le_refl _) ?_, rfl, q _ hf⟩
  exact ⟨z, us, 0, r, Heap.get?_push_size _ rfl⟩
end

/-! ### what a def promises -/
/-- a def's promise: the bound arguments in the parameters' order, the heap, the wanted end, the wanted exception -/
abbrev Sp := List V → Hp → VK → XK → Prop
/-- how an exception lies behind a call (file 08 gives it): the callers' frames, abstract heap and state ahead of the call, the wish, the exception, the state -/
abbrev CXT := List Env → Hp → Shared → XK → Value → Shared → Prop

/-- the state at a call -/
structure Env0 (P : Program) (w : World) (K : PySem.W.Frag) (mg : Str → Option Value) (base : Heap) (A : Around) (outer : List Env) (s : Shared) (H : Hp) : Prop where
  frames : A.frames = some outer
  mod : Mod K mg base
  bs : ∀ b o, base.get? b = some o → s.heap.get? b = some o ∧ H b = none
  bsz : base.objs.size ≤ s.heap.objs.size
  funs : s.heap.FunFrames base outer
  frf : ∀ b ∈ frs outer, H b = none
  hok : HOk P w H s.heap
  bare : AllBare s.gens
/-- a call's end -/
def CE (outer : List Env) (P : Program) (w : World) (H : Hp) (s : Shared) (Q : VK) (u : Value) (s' : Shared) : Prop :=
  ∃ v H', s'.os = s.os ∧ AllBare s'.gens ∧ Un (frs outer) [] H H' s.heap s'.heap ∧ HOk P w H' s'.heap ∧ RelV v u ∧ Q v H'
def CR (CX : CXT) (outer : List Env) (P : Program) (w : World) (H : Hp) (s : Shared) (Q : VK) (E : XK) (r : Result) (s' : Shared) : Prop :=
  match r with
  | .ok (.ret u) => CE outer P w H s Q u s'
  | .ok _ => False
  | .error e => CX outer H s E e s'
structure FnOk (P : Program) (w : World) (K : PySem.W.Frag) (mg : Str → Option Value) (base : Heap) (CX : CXT) (k : Nat) (f : Addr) (fd : FuncData) (ps : List Str) (sp : Sp) : Prop where
  len : ∀ vs H Q E, sp vs H Q E → vs.length = ps.length
  run : ∀ (A : Around) (outer : List Env) (s : Shared) (H : Hp) (args : Args) (us : List Value) (vs : List V) (Q : VK) (E : XK), Room k A → Env0 P w K mg base A outer s H → BindsTo s fd args (ps.zip us) → Vals vs us → sp vs H Q E →
    codeAny (model P w) A (.call (.ref f) args) (CR CX outer P w H s Q E) s
theorem FnOk.mono {P : Program} {w : World} {K : PySem.W.Frag} {mg : Str → Option Value} {base : Heap} {CX : CXT} {j k : Nat} {f : Addr} {fd : FuncData} {ps : List Str} {sp : Sp} (F : FnOk P w K mg base CX j f fd ps sp) (h : j ≤ k) :
    FnOk P w K mg base CX k f fd ps sp := ⟨F.len, fun A outer s H args us vs Q E hr => F.run A outer s H args us vs Q E (hr.mono h)⟩
/-- a weaker promise -/
theorem FnOk.imp {P : Program} {w : World} {K : PySem.W.Frag} {mg : Str → Option Value} {base : Heap} {CX : CXT} {k : Nat} {f : Addr} {fd : FuncData} {ps : List Str} {sp sp' : Sp} (F : FnOk P w K mg base CX k f fd ps sp)
    (h : ∀ vs H Q E, sp' vs H Q E → sp vs H Q E) : FnOk P w K mg base CX k f fd ps sp' :=
  ⟨fun vs H Q E q => F.len vs H Q E (h _ _ _ _ q), fun A outer s H args us vs Q E hr he hb hv hs => F.run A outer s H args us vs Q E hr he hb hv (h _ _ _ _ hs)⟩

theorem Env0.make {P : Program} {w : World} {K : PySem.W.Frag} {mg : Str → Option Value} {base : Heap} {A : Around} {outer : List Env} {s : Shared} {H : Hp} (e : Env0 P w K mg base A outer s H) (C : Addr) (us : List Value) (kw : List (Str × Value)) :
    Env0 P w K mg base (A.under (.builtin "type.__call__" ⟨.ref C :: us, kw⟩)) outer s H := ⟨by first | exact e.frames | (simpa [Around.under, Code.envs, Code.isFrame, pushEnvs] using e.frames), e.mod, e.bs, e.bsz, e.funs, e.frf, e.hok, e.bare⟩
section
variable {X : Cx} {pins : List (Addr × Obj)} {σ : St} {H : Hp} {s s' : Shared}
/-- from a body: what a callee wants -/
theorem Inv.env0 (I : Inv X pins σ H s) : Env0 X.prog X.w X.K X.mg X.base X.A X.stack s H :=
  ⟨I.ok.frames, I.ok.mod, I.bs, Nat.le_trans I.ok.bsz I.sz, I.stack, I.stkFree, I.hok, I.bare⟩
/-- behind a call -/
theorem Inv.after {Q : VK} {u : Value} (I : Inv X pins σ H s) (h : CE X.stack X.prog X.w H s Q u s') : EP X pins σ Q u s' := by
  obtain ⟨v, H', os, bare, un, hok, r, q⟩ := h
  obtain ⟨hh, g, d, t, os'⟩ := s'
  obtain rfl : os' = s.os := os
  exact ⟨v, H', I.call (h' := hh) (g' := g) (d' := d) (t' := t) (ch := []) un hok bare (fun b z => absurd z (by simp)), r, q⟩
end

/-! ### calls -/
/-- f(..): the written arguments, then the defaults dvs; E: what is wanted of an exception -/
def tCall (sp : Sp) (dvs : List V) (E : XK) (t : TA) : TE := fun σ H Q => t σ H fun vs H1 => sp (vs ++ dvs) H1 Q E
/-- o.m(..) of an instance of the class at C -/
def tMeth (C : Addr) (m : Str) (sp : Sp) (dvs : List V) (E : XK) (ta : TE) (t : TA) : TE := fun σ H Q => ta σ H fun x H1 => ∃ a dx fs, x = .ref a ∧ H1 a = some (.ins C dx fs) ∧ fs.lookup m = none ∧
  t σ H1 fun vs H2 => sp (x :: (vs ++ dvs)) H2 Q E
/-- C(..): a new instance and its dict, then __init__ -/
def tMake (C : Addr) (sp : Sp) (dvs : List V) (E : XK) (t : TA) : TE := fun σ H Q => t σ H fun vs H1 => ∀ x dx, H1 x = none → H1 dx = none → dx ≠ x →
  sp (.ref x :: (vs ++ dvs)) (upd (upd H1 dx (.own x)) x (.ins C dx [])) (fun v H2 => v = .non ∧ Q (.ref x) H2) E

/-- how the parameters are bound: us the positional arguments, kw the keywords' values by name, ds the defaults that fill up -/
def Binds (K : PySem.W.Frag) (fd : FuncData) (ps : List Str) (ds : List Value) : Prop :=
  ∀ (s : Shared) (us : List Value), K.In s.heap → (us ++ ds).length = ps.length → BindsTo s fd ⟨us, []⟩ (ps.zip (us ++ ds))
/-- every parameter is given -/
theorem Binds.all {K : PySem.W.Frag} {fd : FuncData} {ps : List Str} (h : ∀ us : List Value, us.length = ps.length → bindArgs fd ⟨us, []⟩ = pure (ps.zip us)) : Binds K fd ps [] := fun s us _ hl => by
  rw [List.append_nil] at hl ⊢
  exact .of_eq (h us hl)

/-- an exception of a callee reaches what this body wants of exceptions -/
def Passes (CX : CXT) (X : Cx) (E : XK) : Prop := ∀ (pins : List (Addr × Obj)) (σ : St) (H : Hp) (s : Shared) (e : Value) (s' : Shared), Inv X pins σ H s → CX X.stack H s E e s' → X.xe e s'

section
variable {X : Cx} {CX : CXT} {k : Nat} {f C : Addr} {fd : FuncData} {ps : List Str} {sp : Sp} {dvs : List V} {ds : List Value} {E : XK} {x m : Str} {p pos apos : Pos} {e o : Expr} {es : List Expr} {ta : TE} {t : TA}

/-- the callee runs -/
theorem run_fn {pins : List (Addr × Obj)} {σ : St} {H : Hp} {s : Shared} {Q : VK} {us : List Value} {vs : List V} (F : FnOk X.prog X.w X.K X.mg X.base CX k f fd ps sp) (hr : Room k X.A) (hb : Binds X.K fd ps ds) (hd : Vals dvs ds) (hx : Passes CX X E)
    (I : Inv X pins σ H s) (r : Vals vs us) (h : sp (vs ++ dvs) H Q E) : wpAny (model X.prog X.w) X.A (call (.ref f) us) (EP X pins σ Q) X.xe s := by
  have r2 : Vals (vs ++ dvs) (us ++ ds) := r.append hd
  have hl : (us ++ ds).length = ps.length := by rw [← r2.length]; exact F.len _ _ _ _ h
  refine wpAny_call (codeAny_mono (F.run X.A X.stack s H ⟨us, []⟩ (us ++ ds) (vs ++ dvs) Q E hr I.env0 (hb s us I.kIn hl) r2 h) fun r s' hq => ?_)
  cases r with
  | error e => exact hx pins σ H s e s' I hq
  | ok fl =>
    cases fl with
    | ret u => exact I.after hq
    | next => exact False.elim hq
    | brk => exact False.elim hq
    | cont => exact False.elim hq

theorem pe_call (F : FnOk X.prog X.w X.K X.mg X.base CX k f fd ps sp) (hr : Room k X.A) (hg : Gl X x) (hm : X.mg x = some (.ref f)) (hk : PySem.W.keepIn X.K (.ref f) = true) (hb : Binds X.K fd ps ds) (hd : Vals dvs ds) (hx : Passes CX X E)
    (ha : PA X (e :: es) t) (hdb : (x == ("__debug__" : Str)) = false := by decide) (he : starEach (e :: es) X.env = (false, eval e X.env) :: starEach es X.env := by rfl) (hpl : (backTo pos (starEach es X.env)).any (·.1) = false := by rfl) :
    PE X (.Call (.Name x p) (e :: es) [] pos) (tCall sp dvs E t) := by
  intro pins s σ H Q I h
  refine wpAny_Call_Name_kw (ld_glob I hg hm ?_ hdb)
  refine PySem.W.callWith_K (h₀ := X.base) I.ok.mod.kin hk (thn (ha pos pins s σ H _ I h) fun us s1 ⟨vs, H1, I1, r, q⟩ => ⟨I1.kIn, ?_⟩) he hpl
  exact run_fn F hr hb hd hx I1 r q
theorem pe_call0 (F : FnOk X.prog X.w X.K X.mg X.base CX k f fd ps sp) (hr : Room k X.A) (hg : Gl X x) (hm : X.mg x = some (.ref f)) (hk : PySem.W.keepIn X.K (.ref f) = true) (hb : Binds X.K fd ps ds) (hd : Vals dvs ds) (hx : Passes CX X E)
    (hdb : (x == ("__debug__" : Str)) = false := by decide) : PE X (.Call (.Name x p) [] [] pos) (tCall sp dvs E tNil) := by
  intro pins s σ H Q I h
  refine wpAny_Call_Name_kw (ld_glob I hg hm ?_ hdb)
  exact PySem.W.callWith_K0 I.kIn hk (run_fn (us := []) F hr hb hd hx I .nil h)

/-- what a class must have to be made -/
structure Mk (K : PySem.W.Frag) (C f : Addr) : Prop where
  makes : PySem.W.makesIn K C = true
  init : PySem.W.findIn K (.ref C) "__init__" = some (some (.ref f))
  fn : PySem.W.isFn K (.ref f) = true
  kp : PySem.W.keepIn K (.ref C) = true

theorem run_make {pins : List (Addr × Obj)} {σ : St} {H : Hp} {s : Shared} {Q : VK} {us : List Value} {vs : List V} (M : Mk X.K C f) (F : FnOk X.prog X.w X.K X.mg X.base CX k f fd ps sp) (hr : Room (k + 1) X.A) (hb : Binds X.K fd ps ds) (hd : Vals dvs ds)
    (hx : Passes CX X E) (I : Inv X pins σ H s) (r : Vals vs us)
    (h : ∀ x dx, H x = none → H dx = none → dx ≠ x → sp (.ref x :: (vs ++ dvs)) (upd (upd H dx (.own x)) x (.ins C dx [])) (fun v H2 => v = .non ∧ Q (.ref x) H2) E) :
    wpAny (model X.prog X.w) X.A (call (.ref C) us) (EP X pins σ Q) X.xe s := by
  have hq := h (s.heap.objs.size + 1) s.heap.objs.size (I.hok.fresh (Nat.le_succ _)) (I.hok.fresh (Nat.le_refl _)) (Nat.ne_of_lt (Nat.lt_succ_self _))
  have I2 := Inv.made (C := C) I
  have r2 : Vals (V.ref (s.heap.objs.size + 1) :: (vs ++ dvs)) (Value.ref (s.heap.objs.size + 1) :: (us ++ ds)) := .cons rfl (r.append hd)
  have hl : (Value.ref (s.heap.objs.size + 1) :: us ++ ds).length = ps.length := by
    have e := r2.length
    rw [F.len _ _ _ _ hq] at e
    exact e.symm
  refine wpAny_call (make_map (f := f) I.kIn M.makes M.init (beq_iff_eq.mp M.fn) (codeAny_mono (F.run _ X.stack _ _ ⟨Value.ref (s.heap.objs.size + 1) :: us, []⟩ (Value.ref (s.heap.objs.size + 1) :: (us ++ ds)) _ _ E (hr.make C us [])
    (I2.env0.make C us []) (hb _ (Value.ref (s.heap.objs.size + 1) :: us) I2.kIn hl) r2 hq) fun r s' hq' => ?_))
  cases r with
  | error e => exact hx pins σ _ _ e s' I2 hq'
  | ok fl =>
    cases fl with
    | ret u =>
      obtain ⟨v, H', I3, rv, ev, q3⟩ := I2.after hq'
      subst ev
      exact ⟨rv, ⟨V.ref (s.heap.objs.size + 1), H', I3, rfl, q3⟩⟩
    | next => exact False.elim hq'
    | brk => exact False.elim hq'
    | cont => exact False.elim hq'
theorem pe_make (M : Mk X.K C f) (F : FnOk X.prog X.w X.K X.mg X.base CX k f fd ps sp) (hr : Room (k + 1) X.A) (hg : Gl X x) (hm : X.mg x = some (.ref C)) (hb : Binds X.K fd ps ds) (hd : Vals dvs ds) (hx : Passes CX X E)
    (ha : PA X (e :: es) t) (hdb : (x == ("__debug__" : Str)) = false := by decide) (he : starEach (e :: es) X.env = (false, eval e X.env) :: starEach es X.env := by rfl) (hpl : (backTo pos (starEach es X.env)).any (·.1) = false := by rfl) :
    PE X (.Call (.Name x p) (e :: es) [] pos) (tMake C sp dvs E t) := by
  intro pins s σ H Q I h
  refine wpAny_Call_Name_kw (ld_glob I hg hm ?_ hdb)
  refine PySem.W.callWith_K (h₀ := X.base) I.ok.mod.kin M.kp (thn (ha pos pins s σ H _ I h) fun us s1 ⟨vs, H1, I1, r, q⟩ => ⟨I1.kIn, ?_⟩) he hpl
  exact run_make M F hr hb hd hx I1 r q
end

/-! ### keywords -/
/-- the values of the keywords, from the left -/
def PK (X : Cx) (kws : List Keyword) (t : TA) : Prop :=
  ∀ (pos : Pos) (pins : List (Addr × Obj)) (s : Shared) (σ : St) (H : Hp) (Q : List V → Hp → Prop), Inv X pins σ H s → t σ H Q → wpAny (model X.prog X.w) X.A (evalAll ((backToKw pos (keywordEach kws X.env)).map (·.2))) (AP X pins σ Q) X.xe s
section
variable {X : Cx} {CX : CXT} {k : Nat} {f C : Addr} {fd : FuncData} {ps ks : List Str} {sp : Sp} {E : XK} {x m : Str} {p pos apos kpos : Pos} {e o : Expr} {es : List Expr} {kws : List Keyword} {te ta : TE} {t tk : TA} {nm : Option Str}
/-- how a call with keywords binds: g puts the positional values us and the keywords' values ws (names ks) in the parameters' order, defaults among them -/
structure KBinds (K : PySem.W.Frag) (fd : FuncData) (ps ks : List Str) (g : List Value → List Value → List Value) (gV : List V → List V → List V) : Prop where
  to : ∀ (s : Shared) (us ws : List Value), K.In s.heap → (g us ws).length = ps.length → BindsTo s fd ⟨us, ks.zip ws⟩ (ps.zip (g us ws))
  rel : ∀ {vs : List V} {us : List Value} {zs : List V} {ws : List Value}, Vals vs us → Vals zs ws → Vals (gV vs zs) (g us ws)
def tCallK (sp : Sp) (gV : List V → List V → List V) (E : XK) (t tk : TA) : TE := fun σ H Q => t σ H fun vs H1 => tk σ H1 fun zs H2 => sp (gV vs zs) H2 Q E
variable {g : List Value → List Value → List Value} {gV : List V → List V → List V}
end

/-! ### a def's body keeps its promise -/
/-- names: the parameters first -/
structure FnScope (N P : List Str) (sc : Scope) : Prop where
  kind : sc.kind = .function
  co : sc.isCoroutine = false
  gen : sc.isGenerator = false
  nd : N.Nodup
  pre : N.take P.length = P
  par : ∀ x ∈ P, sc.names.lookup x = some .local ∨ sc.names.lookup x = some .cell
  nofree : ∀ y ∈ sc.names, y.2 ≠ .free

theorem bindL_out {kindOf : Str → Option NameKind} {x : Str} : ∀ {binds : List (Str × Value)} {m : Str → Option Value}, (∀ v, (x, v) ∉ binds) → bindL kindOf binds m x = m x
  | [], _, _ => rfl
  | (n, v) :: r, m, h => by
    unfold bindL
    rw [bindL_out fun w hw => h w (List.mem_cons_of_mem _ hw)]
    split
    · have : x ≠ n := by rintro rfl; exact h v List.mem_cons_self
      simp [this]
    · rfl
theorem bindC_out {kindOf : Str → Option NameKind} {x : Str} : ∀ {binds : List (Str × Value)} {m : Str → Option Value}, (∀ v, (x, v) ∉ binds) → bindC kindOf binds m x = m x
  | [], _, _ => rfl
  | (n, v) :: r, m, h => by
    unfold bindC
    rw [bindC_out fun w hw => h w (List.mem_cons_of_mem _ hw)]
    split
    · rfl
    · have : x ≠ n := by rintro rfl; exact h v List.mem_cons_self
      simp [this]
theorem bindL_get {kindOf : Str → Option NameKind} {x : Str} {v : Value} : ∀ {P : List Str} {vs : List Value} {i : Nat} {m : Str → Option Value}, P.Nodup → P[i]? = some x → vs[i]? = some v → kindOf x = some .local →
    bindL kindOf (P.zip vs) m x = some v
  | [], _, _, _, _, h, _, _ => by simp at h
  | _ :: _, [], _, _, _, _, h, _ => by simp at h
  | p :: P, w :: vs, 0, m, nd, h1, h2, hk => by
    simp at h1 h2; subst h1; subst h2
    show bindL kindOf ((p, w) :: P.zip vs) m p = _
    unfold bindL
    rw [bindL_out fun v hv => (List.nodup_cons.mp nd).1 (List.of_mem_zip hv).1, if_pos hk]
    simp
  | p :: P, w :: vs, i + 1, m, nd, h1, h2, hk => by
    show bindL kindOf ((p, w) :: P.zip vs) m x = _
    unfold bindL
    exact bindL_get (i := i) (List.nodup_cons.mp nd).2 (by simpa using h1) (by simpa using h2) hk
theorem bindC_get {kindOf : Str → Option NameKind} {x : Str} {v : Value} : ∀ {P : List Str} {vs : List Value} {i : Nat} {m : Str → Option Value}, P.Nodup → P[i]? = some x → vs[i]? = some v → kindOf x ≠ some .local →
    bindC kindOf (P.zip vs) m x = some v
  | [], _, _, _, _, h, _, _ => by simp at h
  | _ :: _, [], _, _, _, _, h, _ => by simp at h
  | p :: P, w :: vs, 0, m, nd, h1, h2, hk => by
    simp at h1 h2; subst h1; subst h2
    show bindC kindOf ((p, w) :: P.zip vs) m p = _
    unfold bindC
    rw [bindC_out fun v hv => (List.nodup_cons.mp nd).1 (List.of_mem_zip hv).1, if_neg hk]
    simp
  | p :: P, w :: vs, i + 1, m, nd, h1, h2, hk => by
    show bindC kindOf ((p, w) :: P.zip vs) m x = _
    unfold bindC
    exact bindC_get (i := i) (List.nodup_cons.mp nd).2 (by simpa using h1) (by simpa using h2) hk

/-- the names' values at the entry -/
def start (N : List Str) (vs : List V) : St := vs.map some ++ List.replicate (N.length - vs.length) none

/-- the context of a def's body, at its entry; an exception leaves the frame, then lies as CX says -/
def cxOf (CX : CXT) (P : Program) (w : World) (K : PySem.W.Frag) (mg : Str → Option Value) (base : Heap) (N : List Str) (qual : Str) (scope : Scope) (f : Addr) (cd : Value) (A : Around) (outer : List Env) (s : Shared) (H : Hp) (E : XK) : Cx where
  prog := P
  w := w
  K := K
  mg := mg
  base := base
  A := A.deeper (envOfC qual scope s.heap.objs.size f cd)
  N := N
  s₀ := s
  H₀ := H
  env := envOfC qual scope s.heap.objs.size f cd
  outer := outer
  stack := envOfC qual scope s.heap.objs.size f cd :: outer
  ex := []
  calm := true
  fn := fun _ => true
  pn := []
  xe := fun e s' => wpAny (model P w) (A.deeper (envOfC qual scope s.heap.objs.size f cd)) (leaving (envOfC qual scope s.heap.objs.size f cd) e) (fun _ s'' => CX outer H s E e s'') (fun e' s'' => CX outer H s E e' s'') s'

theorem cell_has {sc : Scope} {n : Nat} {x : Str} (h : sc.names.lookup x = some .cell) : ∃ c, (cellsFrom n sc.names []).lookup x = some c := by
  have q := PySem.W.cellsFrom_some sc.names n [] (.inl h)
  exact Option.isSome_iff_exists.mp q

theorem inv_start {CX : CXT} {P : Program} {w : World} {K : PySem.W.Frag} {mg : Str → Option Value} {base : Heap} {N ps : List Str} {qual : Str} {scope : Scope} {f : Addr} {cd : Value} {A : Around} {outer : List Env} {s s1 : Shared} {H : Hp} {E : XK} {us : List Value} {vs : List V}
    (S : FnScope N ps scope) (hd : A.handled = none) (e0 : Env0 P w K mg base A outer s H) (hl : vs.length = ps.length) (r : Vals vs us)
    (x : InCallC s s.heap.objs.size (bindL (envOfC qual scope s.heap.objs.size f cd).kindOf (ps.zip us) fun _ => none) (cellsFrom (s.heap.objs.size + 1) scope.names []) (bindC (envOfC qual scope s.heap.objs.size f cd).kindOf (ps.zip us) fun _ => none) s1) :
    Inv (cxOf CX P w K mg base N qual scope f cd A outer s H E) [] (start N vs) H s1 := by
  have hpl : ps.length ≤ N.length := by have := congrArg List.length S.pre; rw [List.length_take] at this; omega
  obtain ⟨h1, tk, rfl, hk⟩ := x.done
  have noA : ∀ b : Addr, b ∉ (cxOf CX P w K mg base N qual scope f cd A outer s H E).ex := fun b z => absurd (show b ∈ ([] : List Addr) from z) (by simp)
  refine ⟨⟨e0.mod, S.kind, rfl, rfl, Nat.le_refl _, fun y z c h1 h2 => ?_, fun y hy => ?_, fun y c _ h => ?_, fun _ => hd, Around.frames_deeper e0.frames, .inr ⟨rfl, rfl⟩, fun b z => absurd z (noA b), e0.bs, e0.bsz, fun b _ _ => noA b, fun b z => absurd z (noA b), e0.funs, e0.frf⟩,
    rfl, e0.bare, Un.kept hk, ⟨_, x.toInCall.ns, fun i y v h1 h2 h3 => ?_⟩, fun y c h => ⟨_, x.cell y c h⟩, e0.hok.fresh (Nat.le_refl _), fun y c h => ?_, fun p hp => absurd (show p ∈ ([] : List (Addr × Obj)) from hp) (by simp), e0.hok.kept hk, ?_⟩
  · exact name_of_addr x.apart (PySem.mem_of_lookup h1) (PySem.mem_of_lookup h2)
  · have hy : scope.names.lookup y = some .cell ∨ scope.names.lookup y = some .free := hy
    rcases hy with hy | hy
    · exact cell_has hy
    · exact absurd rfl (S.nofree _ (PySem.mem_of_lookup hy))
  · exact Nat.le_of_lt (x.above y c (PySem.mem_of_lookup h))
  · have hi : i < vs.length := by
      unfold start at h2
      by_cases hi : i < vs.length
      · exact hi
      · rw [List.getElem?_append_right (by simpa using hi)] at h2
        rw [List.getElem?_replicate] at h2
        split at h2 <;> cases h2
    have ha : vs[i]? = some v := by
      unfold start at h2
      rw [List.getElem?_append_left (by simpa using hi), List.getElem?_map] at h2
      cases e : vs[i]? with
      | none => rw [e] at h2; cases h2
      | some a => rw [e] at h2; cases h2; rfl
    obtain ⟨u, hu, rv⟩ := r.get ha
    have hp : ps[i]? = some y := by
      rw [← S.pre, List.getElem?_take_of_lt (by omega)]; exact h1
    have ndP : ps.Nodup := by rw [← S.pre]; exact S.nd.sublist (List.take_sublist _ _)
    refine ⟨u, rv, ?_⟩
    rcases S.par y (List.mem_of_getElem? hp) with k | k
    · exact .inl ⟨k, bindL_get ndP hp hu k⟩
    · obtain ⟨c, e⟩ := cell_has (n := s.heap.objs.size + 1) k
      refine .inr ⟨.inl k, c, e, ?_⟩
      have q := x.cell y c e
      rw [bindC_get ndP hp hu (by show scope.names.lookup y ≠ _; rw [k]; decide)] at q
      exact q
  · exact e0.hok.fresh (Nat.le_of_lt (x.above y c (PySem.mem_of_lookup h)))
  · unfold start
    show _ = N.length
    rw [List.length_append, List.length_map, List.length_replicate]
    omega

/-- THE RULE: a def (or a method) of the text, by its body. The body's reading t is chosen for each entry; it is run at the parameters' values -/
theorem fn_of {CX : CXT} {P : Program} {w : World} {K : PySem.W.Frag} {mg : Str → Option Value} {base : Heap} {k : Nat} {f : Addr} {name qual : Str} {params : Arguments} {body : List Stmt} {scope : Scope} {dV kV doc pm cdv ct oc : Value} {an od : Option Addr}
    {osl : Array (Option Value)} {N ps : List Str} {sp : Sp} (lk : K.lookup f = some ⟨oc, od, .func (PySem.W.fnOf name qual params body scope dV kV doc pm an cdv ct), osl⟩) (hcd : PySem.W.codeIn K cdv qual = true) (S : FnScope N ps scope)
    (len : ∀ vs H Q E, sp vs H Q E → vs.length = ps.length)
    (hbody : ∀ (A : Around) (outer : List Env) (s : Shared) (H : Hp) (vs : List V) (Q : VK) (E : XK), Room k (A.deeper (envOfC qual scope s.heap.objs.size f cdv)) → sp vs H Q E →
      ∃ t, PSs (cxOf CX P w K mg base N qual scope f cdv A outer s H E) body t ∧ t { nx := fun _ H' => Q .non H', rt := Q } (start N vs) H) :
    FnOk P w K mg base CX (k + 1) f (PySem.W.fnOf name qual params body scope dV kV doc pm an cdv ct) ps sp := by
  refine ⟨len, fun A outer s H args us vs Q E hr e0 hb r hsp => ?_⟩
  have hl := len _ _ _ _ hsp
  have KX : K.In s.heap := e0.mod.kin.keeps fun b o e => (e0.bs b o e).1
  have lim : s.heap.NoLimit := e0.mod.nolimit.keeps fun b o e => (e0.bs b o e).1
  have hkind : ∀ y ∈ ps.zip us, scope.names.lookup y.1 = some .local ∨ (scope.names.lookup y.1 = some .cell ∧ ((cellsFrom (s.heap.objs.size + 1) scope.names []).lookup y.1).isSome = true) := fun ⟨n, v⟩ hy => by
    rcases S.par n (List.of_mem_zip hy).1 with q | q
    · exact .inl q
    · exact .inr ⟨q, PySem.W.cellsFrom_some _ _ _ (.inl q)⟩
  refine codeAny_call_function hr.depth (KX _ _ lk) rfl S.co S.gen rfl (PySem.W.codeRec_of KX hcd) (hb _ _ _ _ ?_)
  refine wpAny_newFunctionEnv_cells S.kind hkind fun env he s1 x => ?_
  subst he
  refine ⟨lim.keeps x.toInCall.keep, codeAny_func ?_⟩
  obtain ⟨t, ht, hq⟩ := hbody A outer s H vs Q E (hr.deeper _) hsp
  have I : Inv (cxOf CX P w K mg base N qual scope f cdv A outer s H E) [] (start N vs) H s1 := inv_start S hr.hd e0 hl r x
  refine wpAny_mono (ht [] s1 (start N vs) H _ I hq) (fun fl s' hs => ?_) fun e s' hs => hs
  have fin : ∀ {σ' : St} {H' : Hp} {v : V} {u : Value}, Inv (cxOf CX P w K mg base N qual scope f cdv A outer s H E) [] σ' H' s' → RelV v u → Q v H' → CE outer P w H s Q u s' :=
    fun {σ' H' v u} J rv q => ⟨v, H', J.os, J.bare, J.base, J.hok, rv, q⟩
  cases fl with
  | ret u =>
    obtain ⟨v, σ', H', J, rv, q⟩ := hs
    exact fin J rv q
  | next =>
    obtain ⟨σ', H', J, q⟩ := hs
    exact fin (v := V.non) (u := Value.none) J rfl q
  | brk =>
    obtain ⟨_, _, _, q⟩ := hs
    exact False.elim q
  | cont =>
    obtain ⟨_, _, _, q⟩ := hs
    exact False.elim q
end L2

namespace L2
open PySem PySem.Spec PyProof.Rows
section
variable {X : Cx} {x : Str} {p pos : Pos} {e : Expr} {es : List Expr} {t : TA} {id T : String} {r : List V → Hp → VK → Prop}

def tCB (r : List V → Hp → VK → Prop) (t : TA) : TE := fun σ H Q => t σ H fun vs H1 => r vs H1 Q
/-- f(e, ..), f a built-in function -/
theorem pe_callB (hc : CallR X (.builtin id) r) (hg : Gl X x) (hm : X.mg x = none) (hv : bootBuiltins x = some (.builtin id)) (ha : PA X (e :: es) t) (hn : x ≠ "__name__" := by decide) (hdb : (x == ("__debug__" : Str)) = false := by decide)
    (he : starEach (e :: es) X.env = (false, eval e X.env) :: starEach es X.env := by rfl) (hpl : (backTo pos (starEach es X.env)).any (·.1) = false := by rfl) : PE X (.Call (.Name x p) (e :: es) [] pos) (tCB r t) := by
  intro pins s σ H Q I h
  refine wpAny_Call_Name_kw (ld_blt I hg hm hv ?_ hn hdb)
  exact PyProof.Rows.callWith_builtin1 (thn (ha pos pins s σ H _ I h) fun us s1 ⟨vs, H1, I1, r1, q1⟩ => hc pins s1 σ H1 vs us Q I1 r1 q1) he hpl
/-- T(e, ..), T a built-in type -/
theorem pe_callTy (hc : CallR X (.type T) r) (hg : Gl X x) (hm : X.mg x = none) (hv : bootBuiltins x = some (.type T)) (ha : PA X (e :: es) t) (hn : x ≠ "__name__" := by decide) (hdb : (x == ("__debug__" : Str)) = false := by decide)
    (he : starEach (e :: es) X.env = (false, eval e X.env) :: starEach es X.env := by rfl) (hpl : (backTo pos (starEach es X.env)).any (·.1) = false := by rfl) : PE X (.Call (.Name x p) (e :: es) [] pos) (tCB r t) := by
  intro pins s σ H Q I h
  refine wpAny_Call_Name_kw (ld_blt I hg hm hv ?_ hn hdb)
  exact PyProof.Rows.callWith_type1 (thn (ha pos pins s σ H _ I h) fun us s1 ⟨vs, H1, I1, r1, q1⟩ => hc pins s1 σ H1 vs us Q I1 r1 q1) he hpl
end
end L2

namespace HT
open PySem PyProof.Rows

/-- t < u of tuples of ints -/
def lexLt : List Int → List Int → Bool
  | [], [] => false
  | [], _ :: _ => true
  | _ :: _, [] => false
  | x :: xs, y :: ys => if x = y then lexLt xs ys else decide (x < y)
section
open PySem.SeqAt
open PySem.AutoSeq1 (wpAny_loadPart')
open PySem.MeetsSeq PySem.MeetsSeq2 PySem.MeetsSeq3

end

section
variable {prog : Program} {w : World} {A : Around} {E : Value → Shared → Prop} {s : Shared}

/-! ### t[a:b], not the whole -/
/-- a slice's bound as a place among n (d where it is left out) -/
def sIx (n d : Nat) : Option Int → Nat
  | none => d
  | some v => if v < 0 then (v + (n : Int)).toNat else min v.toNat n
theorem sIx_none (n d : Nat) : sIx n d none = d := rfl
end
end HT

namespace L2
open PySem PySem.Spec PyProof.Rows

/-! ### the parts of a slice -/
abbrev TO := St → Hp → (Option Int → Hp → Prop) → Prop
/-- a slice's part (left out, or an int) -/
def PO (X : Cx) (e : Option Expr) (t : TO) : Prop :=
  ∀ (pins : List (Addr × Obj)) (s : Shared) (σ : St) (H : Hp) (Q : Option Int → Hp → Prop), Inv X pins σ H s → t σ H Q →
    wpAny (model X.prog X.w) X.A (evalPart e X.env) (fun u s' => ∃ o H', Inv X pins σ H' s' ∧ IsPart u o ∧ Q o H') X.xe s
def tNoPart : TO := fun _ H Q => Q none H
def tPart (t : TE) : TO := fun σ H Q => t σ H fun x H1 => ∃ i, x = .int i ∧ Q (some i) H1

section
variable {X : Cx} {e : Expr} {te : TE} {lo hi : Option Expr} {tl th : TO} {pos p2 : Pos}

theorem po_none : PO X none tNoPart := by
  intro pins s σ H Q I h
  rw [evalPart_none]
  exact wpAny_pure ⟨none, H, I, .none, h⟩
theorem po_some (h : PE X e te) : PO X (some e) (tPart te) := by
  intro pins s σ H Q I hw
  rw [evalPart_some]
  refine thn (h pins s σ H _ I hw) fun u s1 ⟨x, H1, I1, r1, q1⟩ => ?_
  obtain ⟨i, rfl, q⟩ := q1
  obtain ⟨t, rfl⟩ := r1
  exact ⟨some i, H1, I1, .int i t, q⟩

/-- what a slice of a value is, by values: the slice object stands at sl -/
def SlR (X : Cx) (r : V → Option Int → Option Int → Hp → VK → Prop) : Prop :=
  ∀ (pins : List (Addr × Obj)) (s : Shared) (σ : St) (H : Hp) (x : V) (v vl vu : Value) (lo hi : Option Int) (sl : Addr) (Q : VK), Inv X pins σ H s → RelV x v → s.heap.IsSliceOf sl vl vu .none → IsPart vl lo → IsPart vu hi → r x lo hi H Q →
    ∃ T id, typeLookup (.type T) "__getitem__" = pure (some (.builtin id)) ∧ s.TypeIs v T ∧ wpAny (model X.prog X.w) X.A (getItem v (.ref sl)) (EP X pins σ Q) X.xe s
theorem SlR.or {r r' : V → Option Int → Option Int → Hp → VK → Prop} (h : SlR X r) (h' : SlR X r') : SlR X (fun x lo hi H Q => r x lo hi H Q ∨ r' x lo hi H Q) := by
  intro pins s σ H x v vl vu lo hi sl Q I rx hs pl pu q
  rcases q with q | q
  · exact h pins s σ H x v vl vu lo hi sl Q I rx hs pl pu q
  · exact h' pins s σ H x v vl vu lo hi sl Q I rx hs pl pu q
def tSl (r : V → Option Int → Option Int → Hp → VK → Prop) (te : TE) (tl th : TO) : TE := fun σ H Q => te σ H fun x H1 => tl σ H1 fun l H2 => th σ H2 fun u H3 => r x l u H3 Q
/-- a[lo:hi], any a -/
theorem pe_slice {r : V → Option Int → Option Int → Hp → VK → Prop} (hr : SlR X r) (he : PE X e te) (hl : PO X lo tl) (hu : PO X hi th) : PE X (.Subscript e (.Slice lo hi none p2) pos) (tSl r te tl th) := by
  intro pins s σ H Q I h
  refine Subscript_ (thn (he pins s σ H _ I h) fun v s1 ⟨x, H1, I1, r1, q1⟩ => ?_)
  refine wpAny_Slice (thn (hl pins s1 σ H1 _ I1 q1) fun vl s2 ⟨l, H2, I2, pl, q2⟩ => thn (hu pins s2 σ H2 _ I2 q2) fun vu s3 ⟨u, H3, I3, pu, q3⟩ => ?_)
  rw [evalPart_none]
  refine wpAny_pure ?_
  have I4 : Inv X pins σ H3 { s3 with heap := s3.heap.push { cls := .type "slice", data := .fields #[vl, vu, .none] } } := I3.kept (t' := s3.toks) fun b ob q => Heap.get?_push_of_some _ q
  obtain ⟨T, id, hT, ht, hg⟩ := hr pins { s3 with heap := s3.heap.push { cls := .type "slice", data := .fields #[vl, vu, .none] } } σ H3 x v vl vu l u s3.heap.objs.size Q I4 r1 (Heap.IsSliceOf.new ..) pl pu q3
  show wpAny (model X.prog X.w) X.A (subscriptTail e (.Slice lo hi none p2) v (.ref s3.heap.objs.size)) (EP X pins σ Q) X.xe { s3 with heap := s3.heap.push { cls := .type "slice", data := .fields #[vl, vu, .none] } }
  exact tail_any (ops := [.ref s3.heap.objs.size, v]) ht hT hg (by with_unfolding_all rfl)

/-- the items of xs[lo:hi] -/
def cutV (xs : List V) (lo hi : Option Int) : List V := (xs.drop (HT.sIx xs.length 0 lo)).take (HT.sIx xs.length xs.length hi - HT.sIx xs.length 0 lo)
theorem cutV_length (xs : List V) (lo hi : Option Int) : (cutV xs lo hi).length ≤ xs.length := by
  unfold cutV
  rw [List.length_take, List.length_drop]
  omega
/-- t[lo:hi], not the whole of it (the whole would be t itself) -/
def rSlT (K : PySem.W.Frag) : V → Option Int → Option Int → Hp → VK → Prop := fun x lo hi H Q => ∃ a xs, x = .ref a ∧ SqT K H a xs ∧
  ¬ (HT.sIx xs.length 0 lo = 0 ∧ HT.sIx xs.length xs.length hi = xs.length) ∧ ∀ p, H p = none → Q (.ref p) (upd H p (.tup (cutV xs lo hi)))
/-! ### t < u, t + u -/
def rLtT (K : PySem.W.Frag) : R2 := fun x y H Q => ∃ a b ns ms, x = .ref a ∧ y = .ref b ∧ SqT K H a (ns.map V.int) ∧ SqT K H b (ms.map V.int) ∧ Q (.bl (HT.lexLt ns ms)) H
/-- t + u, t not empty: u empty gives t itself -/
def rCatT (K : PySem.W.Frag) : R2 := fun x y H Q => ∃ a b xs ys, x = .ref a ∧ y = .ref b ∧ SqT K H a xs ∧ SqT K H b ys ∧ xs ≠ [] ∧ xs.length + ys.length ≤ sizeLine ∧
  (ys = [] → Q (.ref a) H) ∧ (ys ≠ [] → ∀ p, H p = none → Q (.ref p) (upd H p (.tup (xs ++ ys))))
end
end L2

namespace L2
open PySem PySem.Spec PyProof.Rows

/-! ### places -/
/-- the place that an index of any sign means -/
def ixN (n : Nat) (i : Int) : Option Nat := if 0 ≤ i then (if i < n then some i.toNat else none) else if -(n : Int) ≤ i then some (i + n).toNat else none
def atI {α : Type} (xs : List α) (i : Int) : Option α := (ixN xs.length i).bind fun j => xs[j]?
theorem ixN_seq {n : Nat} {i : Int} {j : Nat} (h : ixN n i = some j) : seqIndex? i n = some j ∧ j < n ∧ -(n : Int) ≤ i ∧ i < n := by
  unfold ixN at h
  by_cases h0 : 0 ≤ i
  · rw [if_pos h0] at h
    by_cases h1 : i < n
    · rw [if_pos h1] at h
      have e : i.toNat = j := Option.some.inj h
      exact ⟨by rw [seqIndex_of h0 h1, e], by omega, by omega, h1⟩
    · rw [if_neg h1] at h; cases h
  · rw [if_neg h0] at h
    by_cases h1 : -(n : Int) ≤ i
    · rw [if_pos h1] at h
      have e : (i + n).toNat = j := Option.some.inj h
      exact ⟨by rw [seqIndex_neg (by omega) h1, e], by omega, h1, by omega⟩
    · rw [if_neg h1] at h; cases h
theorem atI_get {α : Type} {xs : List α} {i : Int} {v : α} (h : atI xs i = some v) : ∃ j, seqIndex? i xs.length = some j ∧ xs[j]? = some v ∧ j < xs.length ∧ -(xs.length : Int) ≤ i ∧ i < xs.length := by
  unfold atI at h
  cases e : ixN xs.length i with
  | none => rw [e] at h; cases h
  | some j =>
    rw [e] at h
    obtain ⟨h1, h2, h3, h4⟩ := ixN_seq e
    exact ⟨j, h1, h, h2, h3, h4⟩
theorem atI_nat {α : Type} {xs : List α} {j : Nat} {v : α} (h : xs[j]? = some v) : atI xs (j : Int) = some v := by
  have hj : j < xs.length := (List.getElem?_eq_some_iff.mp h).1
  have e : ixN xs.length (j : Int) = some j := by
    unfold ixN
    rw [if_pos (by omega), if_pos (by omega)]; simp
  unfold atI; rw [e]; exact h
/-! ### what may be subscripted -/
/-- what stands as an index of a plain subscript -/
def PlainIx (b : Expr) : Prop := ∀ o i, subscripted b false o i = operate [o, i] (getItem o i)
/-- a subscript by values -/
def IxR (X : Cx) (r : R2) : Prop :=
  ∀ (value slice : Expr) (pins : List (Addr × Obj)) (s : Shared) (σ : St) (H : Hp) (x y : V) (v u : Value) (Q : VK), Inv X pins σ H s → RelV x v → RelV y u → r x y H Q →
    subscripted slice false v u = operate [v, u] (getItem v u) → wpAny (model X.prog X.w) X.A (subscriptTail value slice v u) (EP X pins σ Q) X.xe s
/-- a call of a builtin's method by values: the receiver, the arguments -/
def MtR (X : Cx) (id : String) (r : V → List V → Hp → VK → Prop) : Prop :=
  ∀ (pins : List (Addr × Obj)) (s : Shared) (σ : St) (H : Hp) (x : V) (xs : List V) (v : Value) (us : List Value) (Q : VK), Inv X pins σ H s → RelV x v → Vals xs us → r x xs H Q →
    wpAny (model X.prog X.w) X.A (call (.builtin id) (v :: us)) (EP X pins σ Q) X.xe s
section
variable {X : Cx} {a b : Expr} {ta tb : TE} {pos : Pos}
theorem IxR.or {r r' : R2} (h : IxR X r) (h' : IxR X r') : IxR X (fun x y H Q => r x y H Q ∨ r' x y H Q) := by
  intro value slice pins s σ H x y v u Q I rx ry q hs
  rcases q with q | q
  · exact h value slice pins s σ H x y v u Q I rx ry q hs
  · exact h' value slice pins s σ H x y v u Q I rx ry q hs
theorem MtR.or {id : String} {r r' : V → List V → Hp → VK → Prop} (h : MtR X id r) (h' : MtR X id r') : MtR X id (fun x xs H Q => r x xs H Q ∨ r' x xs H Q) := by
  intro pins s σ H x xs v us Q I rx rs q
  rcases q with q | q
  · exact h pins s σ H x xs v us Q I rx rs q
  · exact h' pins s σ H x xs v us Q I rx rs q
/-- a[b] -/
theorem pe_ix {r : R2} (hr : IxR X r) (ha : PE X a ta) (hb : PE X b tb) (hs : PlainIx b) : PE X (.Subscript a b pos) (tOp r ta tb) := by
  intro pins s σ H Q I h
  exact Subscript_ (binT ha hb I h fun v u s2 x y H2 I2 rx ry q => hr a b pins s2 σ H2 x y v u Q I2 rx ry q (hs _ _))

def rIxL (K : PySem.W.Frag) : R2 := fun x y H Q => ∃ p xs i v, x = .ref p ∧ y = .int i ∧ SqL K H p xs ∧ atI xs i = some v ∧ Q v H
def rIxT (K : PySem.W.Frag) : R2 := fun x y H Q => ∃ p xs i v, x = .ref p ∧ y = .int i ∧ SqT K H p xs ∧ atI xs i = some v ∧ Q v H
def rIxS : R2 := fun x y H Q => ∃ z i c, x = .str z ∧ y = .int i ∧ z.length ≤ sizeLine ∧ atI z.cps.toList i = some c ∧ Q (.str ⟨#[c]⟩) H
theorem ix_list : IxR X (rIxL X.K) := by
  intro value slice pins s σ H x y v u Q I rx ry h hs
  obtain ⟨p, xs, i, z, rfl, rfl, hq, he, q⟩ := h
  cases rx
  obtain ⟨t, rfl⟩ := ry
  obtain ⟨its, r, pl, hz⟩ := I.list hq
  obtain ⟨j, h1, h2, h3, h4, h5⟩ := atI_get he
  obtain ⟨w, ew, rw'⟩ := r.get h2
  have hl := r.length
  have hn := line63
  have fin : EP X pins σ Q w s := ⟨z, H, I, rw', q⟩
  by_cases h0 : 0 ≤ i
  · have hj : i.toNat = j := by
      rw [seqIndex_of h0 h5] at h1
      exact Option.some.inj h1
    exact item_listR pl.isList h0 (by omega) (by rw [hj]; simpa using ew) fin hs
  · have hj : (i + (its.toArray.size : Int)).toNat = j := by
      rw [seqIndex_neg (by omega) h4] at h1
      rw [List.size_toArray, ← hl]
      exact Option.some.inj h1
    exact subscriptTail_builtinR (x := w) pl.isList.typeIs slot_list_getitem.lookup
      (wpAny_getItem_list_neg (Q := fun r s' => r = w ∧ EP X pins σ Q r s') pl.isList (by omega) (by rw [List.size_toArray] <;> omega) (by omega) (by rw [hj]; simpa using ew) ⟨rfl, fin⟩) hs
theorem ix_tup : IxR X (rIxT X.K) := by
  intro value slice pins s σ H x y v u Q I rx ry h hs
  obtain ⟨p, xs, i, z, rfl, rfl, hq, he, q⟩ := h
  cases rx
  obtain ⟨t, rfl⟩ := ry
  obtain ⟨its, r, pl, hz⟩ := I.tuple hq
  obtain ⟨j, h1, h2, h3, h4, h5⟩ := atI_get he
  obtain ⟨w, ew, rw'⟩ := r.get h2
  have hl := r.length
  have hn := line63
  have fin : EP X pins σ Q w s := ⟨z, H, I, rw', q⟩
  exact subscriptTail_builtinR (x := w) pl.typeIs slot_tuple_getitem.lookup
    (getItem_tuple (j := j) (Q := fun r s' => r = w ∧ EP X pins σ Q r s') pl (by omega) (by omega) (by rw [List.size_toArray, ← hl]; exact h1) (by simpa using ew) ⟨rfl, fin⟩) hs
/-- list, tuple or str -/
def rIx (K : PySem.W.Frag) : R2 := fun x y H Q => rIxL K x y H Q ∨ rIxT K x y H Q ∨ rIxS x y H Q
/-! ### xs[i] = v, any sign -/
/-- the list's object behind a store -/
theorem mapSeq_set (its : List Value) (n j : Nat) (u : Value) : Obj.mapSeq (·.setIfInBounds j u) { cls := .type "list", data := .seq its.toArray n } = { cls := .type "list", data := .seq (its.set j u).toArray n } := by
  simp [Obj.mapSeq]
theorem Inv.lst {pins : List (Addr × Obj)} {σ : St} {H : Hp} {s : Shared} {p : Addr} {xs : List V} (I : Inv X pins σ H s) (h : H p = some (.lst xs)) :
    ∃ (its : List Value) (n : Nat), Vals xs its ∧ s.heap.get? p = some { cls := .type "list", data := .seq its.toArray n } ∧ xs.length ≤ sizeLine := by
  obtain ⟨z, its, n, r, e⟩ := I.hok p _ h
  exact ⟨its, n, r, e, z⟩
/-- the list at p is written by an update of its object -/
theorem Inv.lstUpd {pins : List (Addr × Obj)} {σ : St} {H : Hp} {s : Shared} {p : Addr} {xs ys : List V} {its its' : List Value} {n n' : Nat} {f : Obj → Obj} (I : Inv X pins σ H s) (h : H p = some (.lst xs))
    (ho : s.heap.get? p = some { cls := .type "list", data := .seq its.toArray n }) (hf : f { cls := .type "list", data := .seq its.toArray n } = { cls := .type "list", data := .seq its'.toArray n' }) (r : Vals ys its') (hz : ys.length ≤ sizeLine) (t : Nat) :
    Inv X pins σ (upd H p (.lst ys)) { s with heap := s.heap.update p f, toks := t } := by
  have e : (s.heap.update p f).get? p = some { cls := .type "list", data := .seq its'.toArray n' } := by
    rw [Heap.get?_update_self f ho (by rw [hf] <;> rfl), hf]
  refine I.write (x := p) (e := p) (by rw [h]; trivial) (.inl rfl) (fun b u hb q => (Heap.get?_update_other _ _ (Ne.symm hb)).trans q) ⟨_, e⟩ ?_
  exact ⟨hz, its', n', r, e⟩
def rSetL : V → V → V → Hp → (Hp → Prop) → Prop := fun o i v H Q => ∃ p xs k j, o = .ref p ∧ i = .int k ∧ H p = some (.lst xs) ∧ ixN xs.length k = some j ∧ Q (upd H p (.lst (xs.set j v)))
theorem set_list : PSet X rSetL := by
  intro pins s σ H o i v ov iv u Q I ro ri rv h
  obtain ⟨p, xs, k, j, rfl, rfl, hp, hj, q⟩ := h
  cases ro
  obtain ⟨t, rfl⟩ := ri
  obtain ⟨its, n, r, ho, hz⟩ := I.lst hp
  obtain ⟨h1, h2, h3, h4⟩ := ixN_seq hj
  have hl := r.length
  have hn := line63
  have I' : Inv X pins σ (upd H p (.lst (xs.set j v))) { s with heap := s.heap.update p (Obj.mapSeq (·.setIfInBounds j u)) } :=
    I.lstUpd hp ho (mapSeq_set its n j u) (r.set rv j) (by rw [List.length_set]; exact hz) s.toks
  by_cases h0 : 0 ≤ k
  · have hk : k.toNat = j := by
      rw [seqIndex_of h0 h4] at h1
      exact Option.some.inj h1
    exact PySem.W.ki_setAt ho h0 (by omega) (by rw [List.size_toArray, ← hl]; exact h4) (by rw [hk]; exact ⟨_, I', q⟩)
  · have hk : (k + (its.toArray.size : Int)).toNat = j := by
      rw [seqIndex_neg (by omega) h3] at h1
      rw [List.size_toArray, ← hl]
      exact Option.some.inj h1
    exact PySem.W.ki_setBack ho (by omega) (by rw [List.size_toArray, ← hl]; exact h3) (by omega) (by rw [hk]; exact ⟨_, I', q⟩)

/-! ### slices -/
theorem slice_bounds (lo hi : Option Int) (n : Nat) : (sliceBounds lo hi none n).1 = ((HT.sIx n 0 lo : Nat) : Int) ∧ (sliceBounds lo hi none n).2.1 = ((HT.sIx n n hi : Nat) : Int) ∧ (sliceBounds lo hi none n).2.2 = 1 := by
  refine ⟨?_, ?_, rfl⟩
  · cases lo with
    | none => simp [sliceBounds, HT.sIx]
    | some i =>
      simp only [sliceBounds, HT.sIx, Option.getD_none, show (1 : Int) > 0 by decide, if_true]
      by_cases h : i < 0
      · simp only [h, if_true] <;> omega
      · simp only [h, if_false] <;> omega
  · cases hi with
    | none => simp [sliceBounds, HT.sIx]
    | some i =>
      simp only [sliceBounds, HT.sIx, Option.getD_none, show (1 : Int) > 0 by decide, if_true]
      by_cases h : i < 0
      · simp only [h, if_true] <;> omega
      · simp only [h, if_false] <;> omega
theorem slicePick_cut (its : List Value) (lo hi : Option Int) : slicePick its.toArray lo hi none = ((its.drop (HT.sIx its.length 0 lo)).take (HT.sIx its.length its.length hi - HT.sIx its.length 0 lo)).toArray := by
  obtain ⟨h1, h2, h3⟩ := slice_bounds lo hi its.toArray.size
  unfold slicePick
  rw [h1, h2, h3]
  simp only [sliceRange_one, pick_run, List.size_toArray] <;> rfl
/-- xs[lo:hi] of a list: a new list -/
def rSlL (K : PySem.W.Frag) : V → Option Int → Option Int → Hp → VK → Prop := fun x lo hi H Q => ∃ a xs, x = .ref a ∧ SqL K H a xs ∧ ∀ p, H p = none → Q (.ref p) (upd H p (.lst (cutV xs lo hi)))
theorem sl_list : SlR X (rSlL X.K) := by
  intro pins s σ H x v vl vu lo hi sl Q I rx hs pl pu h
  obtain ⟨a, xs, rfl, hx, q⟩ := h
  cases rx
  obtain ⟨its, r, ht, hz⟩ := I.list hx
  have hlen := r.length
  refine ⟨"list", _, slot_list_getitem.lookup, ht.isList.typeIs, ?_⟩
  refine wpAny_getItem_list_slice ht.isList hs pl pu .none (by simp) ?_ (by rw [List.size_toArray] <;> omega)
  rw [slicePick_cut, ← hlen]
  refine ⟨.ref s.heap.objs.size, _, I.laid (t' := s.toks) (o := .lst (cutV xs lo hi)) (fun b ob q => Heap.get?_push_of_some _ q) (Nat.le_refl _) ?_, rfl, q _ (I.hok.fresh (Nat.le_refl _))⟩
  exact ⟨Nat.le_trans (cutV_length xs lo hi) hz, _, 0, (r.drop (HT.sIx xs.length 0 lo)).take (HT.sIx xs.length xs.length hi - HT.sIx xs.length 0 lo), Heap.get?_push_size _ rfl⟩

/-! ### in, not in: flat items -/
def flatV : V → Bool
  | .non => true
  | .bl _ => true
  | .int _ => true
  | .str _ => true
  | _ => false
/-- == of flat values -/
def eqV : V → V → Bool
  | .non, .non => true
  | .bl a, .bl b => a == b
  | .bl a, .int b => (if a then 1 else 0) == b
  | .int a, .bl b => a == (if b then 1 else 0)
  | .int a, .int b => a == b
  | .str a, .str b => a == b
  | _, _ => false
theorem eqAt_V {A : Around} {s : Shared} {y x : V} {u v : Value} (ry : RelV y u) (rx : RelV x v) (fy : flatV y = true) (fx : flatV x = true) : SeqAt.EqAt A s u v (eqV y x) := by
  cases y with
  | non =>
    cases ry
    cases x with
    | non => cases rx; exact SeqAt.EqAt.same _
    | bl b => cases rx; exact SeqAt.EqAt.none_bool b
    | int b => obtain ⟨t, rfl⟩ := rx; exact SeqAt.EqAt.none_int b t
    | str b => obtain ⟨t, rfl⟩ := rx; exact SeqAt.EqAt.none_str b t
    | _ => exact absurd (show false = true from fx) Bool.false_ne_true
  | bl a =>
    cases ry
    cases x with
    | non => cases rx; exact SeqAt.EqAt.bool_none a
    | bl b => cases rx; exact SeqAt.EqAt.bool_bool a b
    | int b => obtain ⟨t, rfl⟩ := rx; exact SeqAt.EqAt.bool_int a b t
    | str b => obtain ⟨t, rfl⟩ := rx; exact SeqAt.EqAt.bool_str a b t
    | _ => exact absurd (show false = true from fx) Bool.false_ne_true
  | int a =>
    obtain ⟨t', rfl⟩ := ry
    cases x with
    | non => cases rx; exact SeqAt.EqAt.int_none a t'
    | bl b => cases rx; exact SeqAt.EqAt.int_bool a t' b
    | int b => obtain ⟨t, rfl⟩ := rx; exact SeqAt.EqAt.int_int a t' b t
    | str b => obtain ⟨t, rfl⟩ := rx; exact SeqAt.EqAt.int_str a t' b t
    | _ => exact absurd (show false = true from fx) Bool.false_ne_true
  | str a =>
    obtain ⟨t', rfl⟩ := ry
    cases x with
    | non => cases rx; exact SeqAt.EqAt.str_none a t'
    | bl b => cases rx; exact SeqAt.EqAt.str_bool a t' b
    | int b => obtain ⟨t, rfl⟩ := rx; exact SeqAt.EqAt.str_int a t' b t
    | str b => obtain ⟨t, rfl⟩ := rx; exact SeqAt.EqAt.str_str a t' b t
    | _ => exact absurd (show false = true from fx) Bool.false_ne_true
  | _ => exact absurd (show false = true from fy) Bool.false_ne_true
/-- the items' answers, read off the values (a value's own answer does not lean on its token) -/
def eqU (x : V) (u : Value) : Bool := match u with
  | .none => eqV .non x
  | .bool b => eqV (.bl b) x
  | .int i _ => eqV (.int i) x
  | .str z _ => eqV (.str z) x
  | _ => false
theorem eqU_of {x y : V} {u : Value} (r : RelV y u) (f : flatV y = true) : eqU x u = eqV y x := by
  cases y with
  | non => cases r; rfl
  | bl b => cases r; rfl
  | int i => obtain ⟨t, rfl⟩ := r; rfl
  | str z => obtain ⟨t, rfl⟩ := r; rfl
  | _ => exact absurd (show false = true from f) Bool.false_ne_true
theorem any_eqU {x : V} : ∀ {xs : List V} {us : List Value}, Vals xs us → xs.all flatV = true → us.any (eqU x) = xs.any fun y => eqV y x
  | _, _, .nil, _ => rfl
  | y :: xs, u :: us, .cons r t, f => by
    rw [List.all_cons, Bool.and_eq_true] at f
    rw [List.any_cons, List.any_cons, eqU_of r f.1, any_eqU t f.2]
theorem mem_eqAt {A : Around} {s : Shared} {x : V} {v : Value} (rx : RelV x v) (fx : flatV x = true) : ∀ {xs : List V} {us : List Value}, Vals xs us → xs.all flatV = true → ∀ u ∈ us, SeqAt.EqAt A s u v (eqU x u)
  | _, _, .nil, _ => fun u hu => by cases hu
  | y :: xs, u :: us, .cons r t, f => fun u' hu => by
    rw [List.all_cons, Bool.and_eq_true] at f
    rcases List.mem_cons.mp hu with rfl | hu
    · rw [eqU_of r f.1]; exact eqAt_V r rx f.1 fx
    · exact mem_eqAt rx fx t f.2 u' hu
def inV (x : V) (xs : List V) : Bool := xs.any fun y => eqV y x
/-- x in a list or tuple of flat items -/
def rIn (K : PySem.W.Frag) (neg : Bool) : R2 := fun x y H Q => ∃ p xs, y = .ref p ∧ (SqL K H p xs ∨ SqT K H p xs) ∧ flatV x = true ∧ xs.all flatV = true ∧ Q (.bl (if neg then !inV x xs else inV x xs)) H
theorem op_in_seq : OpR X (compareOp .In) (rIn X.K false) := by
  intro pins s σ H x y v u Q I rx ry h
  obtain ⟨p, xs, rfl, hq, fx, fs, q⟩ := h
  cases ry
  rcases hq with hq | hq
  · obtain ⟨its, r, pl, hz⟩ := I.list hq
    refine SeqAt.in_listAt (eqU x) pl.isList (fun w hw => mem_eqAt rx fx r fs w (by simpa using hw)) ⟨.bl _, H, I, rfl, ?_⟩
    rw [show its.toArray.any (eqU x) = its.any (eqU x) by simp, any_eqU r fs]
    exact q
  · obtain ⟨its, r, pl, hz⟩ := I.tuple hq
    refine SeqAt.in_tupleAt (eqU x) pl (fun w hw => mem_eqAt rx fx r fs w (by simpa using hw)) ⟨.bl _, H, I, rfl, ?_⟩
    rw [show its.toArray.any (eqU x) = its.any (eqU x) by simp, any_eqU r fs]
    exact q
/-! ### len, list(x), tuple(x) of any list or tuple that is read -/
theorem call_len_seq : CallR X (.builtin "len") (fun xs H Q => ∃ p ys, xs = [.ref p] ∧ (SqL X.K H p ys ∨ SqT X.K H p ys) ∧ Q (.int ys.length) H) := by
  intro pins s σ H xs us Q I r h
  obtain ⟨p, ys, rfl, hq, q⟩ := h
  obtain ⟨u, rfl, rx⟩ := vals1 r
  cases rx
  have hn := line63
  rcases hq with hq | hq
  · obtain ⟨its, r', pl, hz⟩ := I.list hq
    have hlen := r'.length
    exact Calls.call_len_list pl.isList (by simp only [List.size_toArray] <;> omega) ⟨.int ys.length, H, I.tok _, ⟨s.toks + 1, by rw [List.size_toArray, hlen]⟩, q⟩
  · obtain ⟨its, r', pl, hz⟩ := I.tuple hq
    have hlen := r'.length
    exact len_tuple pl (by simp only [List.size_toArray] <;> omega) ⟨.int ys.length, H, I.tok _, ⟨s.toks + 1, by rw [List.size_toArray, hlen]⟩, q⟩
theorem CallR.or {f : Value} {r r' : List V → Hp → VK → Prop} (h : CallR X f r) (h' : CallR X f r') : CallR X f (fun xs H Q => r xs H Q ∨ r' xs H Q) := by
  intro pins s σ H xs us Q I rs q
  rcases q with q | q
  · exact h pins s σ H xs us Q I rs q
  · exact h' pins s σ H xs us Q I rs q
theorem call_list_of : CallR X (.type "list") (fun xs H Q => ∃ p ys, xs = [.ref p] ∧ (SqL X.K H p ys ∨ SqT X.K H p ys) ∧ ∀ l, H l = none → Q (.ref l) (upd H l (.lst ys))) := by
  intro pins s σ H xs us Q I r h
  obtain ⟨p, ys, rfl, hq, q⟩ := h
  obtain ⟨u, rfl, rx⟩ := vals1 r
  cases rx
  have fin : ∀ (its : List Value), Vals ys its → ys.length ≤ sizeLine → ∀ (h' : Heap) (c' : Nat), (∀ b o', s.heap.get? b = some o' → h'.get? b = some o') →
      h'.get? s.heap.objs.size = some { cls := .type "list", dict := none, data := .seq its.toArray c', slots := #[] } → EP X pins σ Q (.ref s.heap.objs.size) { s with heap := h' } := fun its r' hz h' c' kp e =>
    ⟨.ref s.heap.objs.size, _, I.laid (t' := s.toks) kp (Nat.le_refl _) (show ObjOk X.prog X.w _ h' _ (.lst ys) from ⟨hz, its, c', r', e⟩), rfl, q _ (I.hok.fresh (Nat.le_refl _))⟩
  rcases hq with hq | hq
  · obtain ⟨its, r', pl, hz⟩ := I.list hq
    have hlen := r'.length
    obtain ⟨o, ho, hc, n, hd⟩ := pl.isList
    exact call_list_seq p (.inl rfl) ho hc hd (fun h' c' kp e => fin its r' hz h' c' kp e) (by simp only [List.size_toArray] <;> omega)
  · obtain ⟨its, r', pl, hz⟩ := I.tuple hq
    have hlen := r'.length
    obtain ⟨o, ho, hc, n, hd⟩ := pl
    exact call_list_seq p (.inr rfl) ho hc hd (fun h' c' kp e => fin its r' hz h' c' kp e) (by simp only [List.size_toArray] <;> omega)
/-! ### the call of a builtin's method: o.m(..) -/
/-- the value is of that builtin type -/
def tyV (K : PySem.W.Frag) (T : String) (x : V) (H : Hp) : Prop := match x with
  | .str _ => T = "str"
  | .int _ => T = "int"
  | .ref p => (T = "list" ∧ ∃ xs, SqL K H p xs) ∨ (T = "tuple" ∧ ∃ o, K.lookup p = some o ∧ o.cls = .type "tuple" ∧ o.dict = none) ∨
      (T = "dict" ∧ ((∃ kvs, H p = some (.dK kvs)) ∨ ∃ kvs, H p = some (.dT kvs))) ∨ (T = "set" ∧ ∃ S n, H p = some (.set S n))
  | _ => False
theorem tyV_is {pins : List (Addr × Obj)} {σ : St} {H : Hp} {s : Shared} {T : String} {x : V} {v : Value} (I : Inv X pins σ H s) (r : RelV x v) (ty : tyV X.K T x H) :
    s.TypeIs v T ∧ ∀ a, v = .ref a → ∃ ob, s.heap.get? a = some ob ∧ ob.dict = none := by
  cases x with
  | str z =>
    obtain ⟨t, rfl⟩ := r
    cases (show T = "str" from ty)
    exact ⟨typeIs_str s z t, fun _ e => nomatch e⟩
  | int i =>
    obtain ⟨t, rfl⟩ := r
    cases (show T = "int" from ty)
    exact ⟨typeIs_int s i t, fun _ e => nomatch e⟩
  | ref p =>
    cases r
    rcases ty with ⟨rfl, xs, hq⟩ | ⟨rfl, o, hk, hc, hd⟩ | ⟨rfl, hk⟩ | ⟨rfl, S, n, hk⟩
    · obtain ⟨its, _, pl, _⟩ := I.list hq
      refine ⟨pl.isList.typeIs, fun a e => ?_⟩
      cases e
      obtain ⟨o, n, e, c, hd, _⟩ := pl
      exact ⟨o, e, hd⟩
    · refine ⟨⟨o, I.kIn p o hk, hc⟩, fun a e => ?_⟩
      cases e
      exact ⟨o, I.kIn _ o hk, hd⟩
    · have z : ∃ o, s.heap.get? p = some o ∧ o.ExactDict := by
        rcases hk with ⟨kvs, hk⟩ | ⟨kvs, hk⟩
        · obtain ⟨_, _, _, _, o, _, _, e, ex, _⟩ := I.hok p _ hk
          exact ⟨o, e, ex⟩
        · obtain ⟨_, _, _, _, o, _, _, e, ex, _⟩ := I.hok p _ hk
          exact ⟨o, e, ex⟩
      obtain ⟨o, e, ex⟩ := z
      refine ⟨⟨o, e, ex.1⟩, fun a e2 => ?_⟩
      cases e2
      exact ⟨o, e, ex.2.1⟩
    · obtain ⟨o, _, _, _, e, ex, _⟩ := I.hok p _ hk
      refine ⟨⟨o, e, ex.1⟩, fun a e2 => ?_⟩
      cases e2
      exact ⟨o, e, ex.2.1⟩
  | _ => exact False.elim ty
def tBM0 (K : PySem.W.Frag) (T : String) (r : V → List V → Hp → VK → Prop) (to : TE) : TE := fun σ H Q => to σ H fun x H1 => tyV K T x H1 ∧ r x [] H1 Q
def tBM (K : PySem.W.Frag) (T : String) (r : V → List V → Hp → VK → Prop) (to : TE) (t : TA) : TE := fun σ H Q => to σ H fun x H1 => tyV K T x H1 ∧ t σ H1 fun xs H2 => r x xs H2 Q
variable {o e : Expr} {es : List Expr} {to : TE} {t : TA} {name : Str} {apos cpos : Pos} {T id : String} {r : V → List V → Hp → VK → Prop}
theorem pe_bm (pa : PlainAttrs T) (slot : Slot T name id) (hty : typeOf (.builtin id) = pure (.type "method_descriptor")) (hm : MtR X id r) (ho : PE X o to) (ha : PA X (e :: es) t)
    (hbase : attributeBase o name X.env (eval o X.env) = eval o X.env := by rfl)
    (hfew : ((backTo cpos (starEach (e :: es) X.env)).all (fun x => !x.1) && (backToKw cpos (keywordEach [] X.env)).all (fun x => x.1.isSome)
      && decide ((e :: es).length + ([] : List Keyword).length + (if ([] : List Keyword).isEmpty then 0 else 1) < 30)) = true := by rfl)
    (hline : (apos.endLine == cpos.line) = true := by rfl) (hs : starEach (e :: es) X.env = (false, eval e X.env) :: starEach es X.env := by rfl) (hplain : (backTo cpos (starEach es X.env)).any (·.1) = false := by rfl) :
    PE X (.Call (.Attribute o name apos) (e :: es) [] cpos) (tBM X.K T r to t) := by
  intro pins s σ H Q I h
  refine wpAny_Call_method_late hbase hfew hline rfl (thn (ho pins s σ H _ I h) fun v s1 ⟨x, H1, I1, r1, ty, q1⟩ => ?_)
  obtain ⟨h1, h2⟩ := tyV_is I1 r1 ty
  refine ⟨T, id, pa, slot, hty, h1, h2, ?_⟩
  have hA := ha cpos pins s1 σ H1 _ I1 q1
  rw [hs] at hA ⊢
  refine Calls.callWith_builtin (by show (false || (backTo cpos (starEach es X.env)).any (·.1)) = false; rw [hplain] <;> rfl) (Calls.evalArgs_plain ?_)
  exact thn hA fun us s2 ⟨vs, H2, I2, r2, q2⟩ => hm pins s2 σ H2 x vs v us Q I2 r1 r2 q2
/- xs.append(e), list.index on a module's tuple .. are MtR facts of 06m -/
end
end L2

namespace L2
open PySem PySem.Spec PyProof.Rows

def MtM (X : Cx) (id : String) (r : V → List V → Hp → VK → Prop) : Prop :=
  ∀ (pins : List (Addr × Obj)) (s : Shared) (σ : St) (H : Hp) (x : V) (xs : List V) (v : Value) (us : List Value) (Q : VK), Inv X pins σ H s → RelV x v → Vals xs us → r x xs H Q →
    wpAny (model X.prog X.w) X.A (call (.builtin id) (v :: us)) (EP X pins σ Q) X.xe s

/-! ### lists of values -/
theorem Vals.one : ∀ {x : V} {us : List Value}, Vals [x] us → ∃ u, us = [u] ∧ RelV x u
  | _, _, .cons r .nil => ⟨_, rfl, r⟩
theorem Vals.two : ∀ {x y : V} {us : List Value}, Vals [x, y] us → ∃ u v, us = [u, v] ∧ RelV x u ∧ RelV y v
  | _, _, _, .cons r (.cons q .nil) => ⟨_, _, rfl, r, q⟩
theorem Vals.zero : ∀ {us : List Value}, Vals [] us → us = []
  | _, .nil => rfl
theorem Vals.dropLast {xs : List V} {us : List Value} (h : Vals xs us) : Vals xs.dropLast us.dropLast := by
  induction h with
  | nil => exact .nil
  | cons r t ih =>
    cases t with
    | nil => exact .nil
    | cons q t' => exact .cons r ih
theorem Vals.eraseIdx : ∀ {xs : List V} {us : List Value} (i : Nat), Vals xs us → Vals (xs.eraseIdx i) (us.eraseIdx i)
  | _, _, _, .nil => .nil
  | _, _, 0, .cons _ t => t
  | _, _, i + 1, .cons r t => .cons r (Vals.eraseIdx i t)
theorem Vals.reverse {xs : List V} {us : List Value} (h : Vals xs us) : Vals xs.reverse us.reverse := by
  induction h with
  | nil => exact .nil
  | cons r t ih => rw [List.reverse_cons, List.reverse_cons]; exact Vals.append ih (.cons r .nil)
section
variable {X : Cx} {pins : List (Addr × Obj)} {σ : St} {H : Hp} {s : Shared} {l b : Addr} {xs ys zs : List V}

/-! ### the two steps: a tracked list is rewritten, a new list is laid -/
theorem Inv.lset {its its' : List Value} {n : Nat} {f : Array Value → Array Value} {t' : Nat} (I : Inv X pins σ H s) (hH : H l = some (.lst xs))
    (e : s.heap.get? l = some { cls := .type "list", data := .seq its.toArray n }) (hf : f its.toArray = its'.toArray) (hv : Vals ys its') (hz : ys.length ≤ sizeLine) :
    Inv X pins σ (upd H l (.lst ys)) { s with heap := s.heap.update l (Obj.mapSeq f), toks := t' } := by
  have q := PySem.IsL.update e f
  rw [hf] at q
  refine I.write (x := l) (e := l) (by rw [hH]; exact trivial) (.inl rfl) (fun b' u hb hu => (Heap.get?_update_other s.heap (Obj.mapSeq f) (Ne.symm hb)).trans hu) ⟨_, q⟩ ?_
  exact ⟨hz, its', _, hv, q⟩
theorem Inv.lnew {its : List Value} {t' : Nat} (I : Inv X pins σ H s) (hv : Vals ys its) (hz : ys.length ≤ sizeLine) :
    Inv X pins σ (upd H s.heap.objs.size (.lst ys)) { s with heap := s.heap.push { cls := .type "list", data := .seq its.toArray }, toks := t' } :=
  I.laid (fun _ _ q => Heap.get?_push_of_some _ q) (Nat.le_refl _) ⟨hz, its, 0, hv, Heap.get?_push_size _ rfl⟩
theorem Inv.fresh (I : Inv X pins σ H s) : H s.heap.objs.size = none := I.hok.fresh (Nat.le_refl _)
theorem Inv.lstM (I : Inv X pins σ H s) (hH : H l = some (.lst xs)) : xs.length ≤ sizeLine ∧ ∃ (its : List Value) (n : Nat), Vals xs its ∧ xs.length = its.length ∧ s.heap.get? l = some { cls := .type "list", data := .seq its.toArray n } := by
  obtain ⟨z, its, n, r, e⟩ := I.hok l _ hH
  exact ⟨z, its, n, r, r.length, e⟩

end

section
variable {X : Cx}

/-! ### methods -/
def rAppend : V → List V → Hp → VK → Prop := fun x vs H Q => ∃ l xs y, x = .ref l ∧ vs = [y] ∧ H l = some (.lst xs) ∧ xs.length < sizeLine ∧ Q .non (upd H l (.lst (xs ++ [y])))
theorem mt_append : MtM X "list.append" rAppend := by
  intro pins s σ H x vs v us Q I rx rv h
  obtain ⟨l, xs, y, rfl, rfl, hH, hz, q⟩ := h
  cases rx
  obtain ⟨u, rfl, ru⟩ := rv.one
  obtain ⟨z, its, n, r, hl, e⟩ := I.lstM hH
  refine call_meets F.slot_list_append ⟨_, e, rfl⟩ F.entry_list_append (F.args_list_append_2 _ _) (PySem.list_append l its.toArray n u (by rw [List.size_toArray]; omega)) ⟨e, ?_⟩
  refine ⟨.non, _, I.lset (its' := its ++ [u]) hH e (by simp) (r.append (.cons ru .nil)) ?_, rfl, q⟩
  rw [List.length_append, List.length_singleton]
  omega

def rExtend : V → List V → Hp → VK → Prop := fun x vs H Q => ∃ l b xs zs, x = .ref l ∧ vs = [.ref b] ∧ H l = some (.lst xs) ∧ H b = some (.lst zs) ∧ xs.length + zs.length ≤ sizeLine ∧ Q .non (upd H l (.lst (xs ++ zs)))
def rPop : V → List V → Hp → VK → Prop := fun x vs H Q => ∃ l xs y, x = .ref l ∧ vs = [] ∧ H l = some (.lst xs) ∧ xs[xs.length - 1]? = some y ∧ Q y (upd H l (.lst xs.dropLast))
def rPopAt : V → List V → Hp → VK → Prop := fun x vs H Q => ∃ l xs i k y, x = .ref l ∧ vs = [.int i] ∧ H l = some (.lst xs) ∧ -(2 ^ 63) ≤ i ∧ i < 2 ^ 63 ∧ seqIndex? i xs.length = some k ∧ xs[k]? = some y ∧ Q y (upd H l (.lst (xs.eraseIdx k)))
def rReverse : V → List V → Hp → VK → Prop := fun x vs H Q => ∃ l xs, x = .ref l ∧ vs = [] ∧ H l = some (.lst xs) ∧ Q .non (upd H l (.lst xs.reverse))
def rClear : V → List V → Hp → VK → Prop := fun x vs H Q => ∃ l xs, x = .ref l ∧ vs = [] ∧ H l = some (.lst xs) ∧ Q .non (upd H l (.lst []))
/-! ### list + list, list += list, list * int -/
def rCat : R2 := fun x y H Q => ∃ l b xs zs, x = .ref l ∧ y = .ref b ∧ H l = some (.lst xs) ∧ H b = some (.lst zs) ∧ xs.length + zs.length ≤ sizeLine ∧ ∀ p, H p = none → Q (.ref p) (upd H p (.lst (xs ++ zs)))
/-- a list times an int (a negative one is nothing) -/
def rRep : R2 := fun x y H Q => ∃ l k xs, x = .ref l ∧ y = .int k ∧ H l = some (.lst xs) ∧ -(2 ^ 63) ≤ k ∧ k < 2 ^ 63 ∧ xs.length * k.toNat ≤ sizeLine ∧
  ∀ p, H p = none → Q (.ref p) (upd H p (.lst (List.replicate k.toNat xs).flatten))
/-! ### del xs[i] -/
end

/-! ### xs[a:b] = ys -/
section
variable {prog : Program} {w : World} {A : Around} {E : Value → Shared → Prop} {s : Shared}
set_option maxRecDepth 100000 in
end

section
variable {X : Cx}
end
end L2

namespace Att
open PySem PySem.W PySem.Calls PyProof.Rows

/-! ### the script -/
theorem ints_of_wellAll {P : Params} {h : Heap} : ∀ (ns : List Int) (vs : List Value), WellAll P h vs (ns.map WData.int) → IntsAre vs ns := by
  intro ns
  induction ns with
  | nil =>
    intro vs w
    rw [List.map_nil] at w
    cases w
    exact .nil
  | cons n ns ih =>
    intro vs w
    rw [List.map_cons] at w
    cases w with
    | cons a b =>
      cases a
      exact .cons _ _ (ih _ b)

theorem script_of {l : OpenLaw} {n : Nat} (hn : l.most = some n) {P : Params} {h : Heap} {args : List WData} {vals : List Value}
    (hpre : l.row.toRowW.claim.pre args = true) (hwl : WellAll P h vals args) :
    ∃ a vs ns, vals = [Value.ref a] ∧ args = [WData.list (ns.map WData.int)] ∧ h.get? a = some { cls := .type "list", data := .seq vs.toArray } ∧ IntsAre vs ns ∧ ns.length ≤ n := by
  have hsh : WShape.hasAll [] args [.list .int] = true := (pre_splitW hpre).1
  have hc : l.pre.holds [] { args := args } = true := (pre_splitW hpre).2
  obtain ⟨d, r, rfl, h1, h2⟩ := hasAllW_cons hsh
  obtain rfl := hasAllW_nil h2
  obtain ⟨xs, rfl, h3⟩ := hasW_list h1
  obtain ⟨ns, rfl⟩ := items_int h3
  have hlen : ns.length ≤ n := by
    unfold OpenLaw.pre at hc
    have h4 : (WTm.not (.lt (.lit (.int (n : Int))) (.len (.arg 0)))).holds [] { args := [.list (ns.map .int)] } = true := by
      have h4 := (holds_andW hc).1
      rw [hn] at h4
      exact h4
    have h5 := condW_of h4 (w_not (w_lt w_lit (w_len_list (w_arg rfl))))
    rw [List.length_map] at h5
    refine Nat.le_of_not_lt fun q => ?_
    have q' : (n : Int) < ((ns.length : Nat) : Int) := by omega
    first
      | (rw [decide_eq_true q'] at h5; exact absurd h5 (by decide))
      | (simp at h5; omega)
  cases hwl with
  | cons w1 w2 =>
    cases w2
    cases w1 with
    | list ho hall => exact ⟨_, _, ns, rfl, rfl, ho, ints_of_wellAll ns _ hall, hlen⟩

theorem post_true (l : OpenLaw) (args : List WData) : l.row.toRowW.claim.post args (.bool true) args = true :=
  postW_of (r := l.row.toRowW) (X := (true == true))
    (show WShape.has [] (.bool true) .bool = true by first | rfl | decide | simp [WShape.has, WShape.arms, WShape.armsAll])
    (show (WTm.eq .res (.lit (.bool true))).value [] { args := args, res := some (.bool true), after := args } = some (.bool (true == true)) from w_eq_bool (w_res rfl) w_lit) rfl

/-! ### the attachment: holds_open's last premise (the goal 'hc' behind k_head) from a wpAny of the law's body -/
/-- the same from a codeAny of the CALL (for a layer whose function contracts speak of calls) -/
theorem attach_call {l : OpenLaw} {n : Nat} {q : Program} {loose : List Str} {XP : (Str → Option Value) → Heap → Prop} {YP : World → Heap → Prop} {d : DefRec}
    (hn : l.most = some n) (hdf : d.params.defaults = [])
    (call : ∀ (w : World) (s₀ s₁ : Shared) (mg mb : Str → Option Value) (fa : Addr) (o : Obj) (pm cd doc : Value) (a : Addr) (vs : List Value) (ns : List Int),
      Ground q loose [] XP w s₀ mg mb s₁.heap → YP w s₁.heap →
      s₁.heap.get? fa = some o → o.data = .func (docDef d.name d.params d.body d.scope pm cd doc) → s₁.heap.CodeRec cd d.name → mg d.name = some (.ref fa) →
      s₁.heap.get? a = some { cls := .type "list", data := .seq vs.toArray } → IntsAre vs ns → ns.length ≤ n → s₁.gens = #[] →
      codeAny (model l.prog w) callerA (.call (.ref fa) ⟨[.ref a], []⟩) (fun r s' => r = .ok (.ret (.bool true)) ∧ OldK s₁.heap s'.heap ∧ s'.os = s₁.os ∧ AllBare s'.gens) s₁) :
    WalkO q loose XP YP l.row.toRowW d [] (fun f vs => PySem.call f vs) := by
  intro w s₀ s₁ mg mb G Y fa o pm cd doc dV kV ho hd hcd hD hmg hg args vals as hpre hlay hrd hwl hlo
  obtain rfl : dV = .none := Dflts.none hD hdf
  obtain rfl : kV = .none := Dflts.noKw hD
  obtain ⟨a, vs, ns, rfl, rfl, hobj, hints, hlen⟩ := script_of hn hpre hwl
  refine enter_call (codeAny_mono (call w s₀ s₁ mg mb fa o pm cd doc a vs ns G Y ho (fd_plain hd) hcd hmg hobj hints hlen hg) fun r s' hq => ?_)
  obtain ⟨rfl, h2, h3, h4⟩ := hq
  exact ⟨.inl ⟨.bool true, .bool true, [], rfl, fun _ => rfl, .bool true, post_true l _, fun _ => ⟨List.Pairwise.nil, fun _ hm => (nomatch hm)⟩⟩, h2, h3, h4⟩

/-! ### rules over ANY heap (no ledger) from facts about the written part K: the library's own take a ledger (News) for what they write -/
section
variable {prog : Program} {w : World} {A : Around} {E : Value → Shared → Prop} {s : Shared} {K : Frag}

/-! the whole heap as the ledger: makes every rule that writes through a ledger a rule over any heap -/
def noObjs (h : Heap) : Heap := { h with objs := #[] }
theorem noObjs_get (h : Heap) (b : Addr) : (noObjs h).get? b = none := by
  cases e : (noObjs h).get? b with
  | none => rfl
  | some o => exact absurd (Heap.lt_size e) (Nat.not_lt_zero _)
def ledger (h : Heap) (L d : Addr) : List (Addr × Obj) := (List.range h.objs.size).filterMap fun a => if a = L ∨ a = d then none else (h.get? a).map fun o => (a, o)
theorem fr_all {h : Heap} {L : Addr} {m : Str → Option Value} (n : h.Ns L m) : Fr (noObjs h) L h m :=
  ⟨n, fun b o e => (by rw [noObjs_get] at e; cases e), Nat.zero_le _⟩
end
end Att

namespace L2
open PySem PySem.Spec PyProof.Rows

theorem vals_ints : ∀ {vs : List Value} {ns : List Int}, IntsAre vs ns → Vals (ns.map V.int) vs
  | _, _, .nil => .nil
  | _, _, .cons n t h => .cons ⟨t, rfl⟩ (vals_ints h)

/-- nothing is tracked but the script, known to the object (or it is an object of the module) -/
def Only (H : Hp) : Prop := ∀ b, H b = none ∨ ∃ o xs, H b = some (.frz o (.lst xs))

/-- THE HEAD: the law's promise, at the heap behind the top. F, the promise of the law's def, may use that base is part of the heap (so K.In base, base.Ns mainGlobals mg stand in Mod) -/
theorem law_call {P : Program} {w : World} {K : PySem.W.Frag} {mg mb : Str → Option Value} {CX : CXT} {k : Nat} {fa a : Addr} {fd : FuncData} {x : Str} {sp : Sp} {s₁ : Shared} {vs : List Value} {ns : List Int}
    (KX : K.In s₁.heap) (hns : s₁.heap.Ns mainGlobals mg) (hb : s₁.heap.Ns builtinsNs mb) (hbb : ∀ x : Str, x ≠ "__name__" → mb x = bootBuiltins x) (hlim : s₁.heap.NoLimit) (hg : s₁.gens = #[])
    (ha : s₁.heap.get? a = some { cls := .type "list", data := .seq vs.toArray }) (hi : IntsAre vs ns) (hl : ns.length ≤ sizeLine) (hr : Room k callerA)
    (F : ∀ base : Heap, K.In base → base.Ns mainGlobals mg → FnOk P w K mg base CX k fa fd [x] sp) (hbind : ∀ (s : Shared) (u : Value), BindsTo s fd ⟨[u], []⟩ [(x, u)])
    (hsp : ∀ H : Hp, Only H → SqL K H a (ns.map V.int) → sp [.ref a] H (fun v _ => v = .bl true) fun _ _ _ => False)
    (hCX : ∀ H e s', CX [] H s₁ (fun _ _ _ => False) e s' → False) :
    codeAny (model P w) callerA (.call (.ref fa) ⟨[.ref a], []⟩) (fun r s' => r = .ok (.ret (.bool true)) ∧ OldK s₁.heap s'.heap ∧ s'.os = s₁.os ∧ AllBare s'.gens) s₁ := by
  have rv := vals_ints hi
  have lenV := hi.length
  -- from an abstract heap in which nothing but the script may be tracked
  have core : ∀ H : Hp, Only H → SqL K H a (ns.map V.int) → HOk P w H s₁.heap → (∀ b, H b ≠ none → b = a) → (H a ≠ none → K.lookup a = none) →
      codeAny (model P w) callerA (.call (.ref fa) ⟨[.ref a], []⟩) (fun r s' => r = .ok (.ret (.bool true)) ∧ OldK s₁.heap s'.heap ∧ s'.os = s₁.os ∧ AllBare s'.gens) s₁ := by
    intro H hO hS hok hA hK
    have base_of : ∀ {b : Addr} {o : Obj}, s₁.heap.get? b = some o → H b = none → (hidT s₁.heap H).get? b = some o := fun e n => hidT_get e n
    have noA : ∀ {b : Addr} {o : Obj} {es : Array DictEntry} {ep : Nat}, s₁.heap.get? b = some o → o.data = .dict es ep → H b = none := fun {b o es ep} e d => by
      cases q : H b with
      | none => rfl
      | some u =>
        have e' : b = a := hA b (by rw [q]; simp)
        subst e'
        rw [ha] at e; cases e
        have d' : Data.seq vs.toArray _ = Data.dict es ep := d
        cases d'
    have nsK : ∀ {b : Addr} {m : Str → Option Value}, s₁.heap.Ns b m → (hidT s₁.heap H).Ns b m := fun {b m} ⟨o, es, ep, e, d, r⟩ => ⟨o, es, ep, base_of e (noA e d), d, r⟩
    have hKb : K.In (hidT s₁.heap H) := fun b o e => base_of (KX b o e) (by
      cases q : H b with
      | none => rfl
      | some u =>
        have e' : b = a := hA b (by rw [q]; simp)
        subst e'
        rw [hK (by rw [q]; simp)] at e; cases e)
    have hM : Mod K mg (hidT s₁.heap H) := ⟨hKb, nsK hns, ⟨mb, nsK hb, hbb⟩, let ⟨mc, h1, h2⟩ := hlim; ⟨mc, nsK h1, h2⟩⟩
    have e0 : Env0 P w K mg (hidT s₁.heap H) callerA [] s₁ H := ⟨rfl, hM, fun b o e => of_hidT e, Nat.le_of_eq (hidT_size _ _), trivial, fun b hb => absurd (show b ∈ ([] : List Addr) from hb) (by simp), hok, .of_eq hg⟩
    refine codeAny_mono ((F _ hKb (nsK hns)).run callerA [] s₁ H ⟨[.ref a], []⟩ [.ref a] [.ref a] _ _ hr e0 (hbind s₁ (.ref a)) (.cons rfl .nil) (hsp H hO hS)) fun r s' h => ?_
    cases r with
    | error e => exact (hCX H e s' h).elim
    | ok fl =>
      cases fl with
      | next => exact False.elim h
      | brk => exact False.elim h
      | cont => exact False.elim h
      | ret u =>
        obtain ⟨v, H', os, bare, un, hok', r', q⟩ := h
        have q' : v = .bl true := q
        subst q'
        obtain rfl : u = Value.bool true := r'
        refine ⟨rfl, OldK.of_keep fun b o e => ?_, os, bare⟩
        cases q : H b with
        | none => exact un.keep b o e q (by intro z; exact absurd (show b ∈ ([] : List Addr) from z) (by simp)) (by simp)
        | some u =>
          rcases hO b with z | ⟨ob, xs, z⟩
          · rw [q] at z; cases z
          · have z2 := un.frzs b ob _ z
            obtain ⟨e1, _⟩ := hok b _ z
            obtain ⟨e2, _⟩ := hok' b _ z2
            rw [e] at e1; cases e1
            exact e2
  cases hk : K.lookup a with
  | some o =>
    -- the script is one of the module's own objects
    have e := KX a o hk
    rw [ha] at e
    cases e
    refine core (fun _ => none) (fun _ => .inl rfl) (.inr ⟨_, vs.toArray, _, hk, rfl, rfl, rfl, by rw [List.size_toArray, lenV]; exact hl, by simpa using rv⟩) (fun b u z => by have z' : (none : Option HO) = some u := z; cases z') (fun b z => absurd rfl z) fun z => absurd rfl z
  | none =>
    refine core (fun b => if b = a then some (.frz { cls := .type "list", data := .seq vs.toArray } (.lst (ns.map V.int))) else none) (fun b => ?_) (.inl (.inr ⟨{ cls := .type "list", data := .seq vs.toArray }, if_pos rfl⟩)) (fun b u z => ?_) (fun b z => ?_) fun _ => hk
    · by_cases hb : b = a
      · exact .inr ⟨_, _, if_pos hb⟩
      · exact .inl (if_neg hb)
    · by_cases hb : b = a
      · have z' := (if_pos hb).symm.trans z
        cases z'
        subst hb
        exact ⟨ha, by rw [List.length_map]; exact hl, vs, _, rv, ha⟩
      · have z' := (if_neg hb).symm.trans z
        cases z'
    · by_cases hb : b = a
      · exact hb
      · exact absurd (if_neg hb) z
end L2

namespace L2
open PySem PySem.Spec PyProof.Rows

abbrev KOf {K : PySem.W.Frag} {h : Heap} (_ : K.In h) : PySem.W.Frag := K

/-- the goal that k_head leaves (case hc), from the law's promise. F gives the function object fd (K's own) once, then the promise over every base -/
theorem walk_of {l : PySem.W.OpenLaw} {n k : Nat} {q : Program} {loose : List Str} {XP : (Str → Option Value) → Heap → Prop} {YP : World → Heap → Prop} {d : DefRec} {K : Params → PySem.W.Frag} {CX : World → CXT} {sp : World → Sp} {x : Str}
    (hn : l.most = some n) (hn2 : n ≤ sizeLine) (hdf : d.params.defaults = []) (hr : Room k callerA)
    (hY : ∀ (w : World) (h : Heap), YP w h → (K w.params).In h)
    (F : ∀ (w : World) (mg : Str → Option Value) (fa : Addr) (h : Heap), (K w.params).In h → h.Ns mainGlobals mg → mg d.name = some (.ref fa) →
      ∃ fd : FuncData, (∀ (s : Shared) (u : Value), BindsTo s fd ⟨[u], []⟩ [(x, u)]) ∧
        ∀ base : Heap, (K w.params).In base → base.Ns mainGlobals mg → FnOk l.prog w (K w.params) mg base (CX w) k fa fd [x] (sp w))
    (hsp : ∀ (w : World) (H : Hp) (a : Addr) (ns : List Int), ns.length ≤ n → Only H → SqL (K w.params) H a (ns.map V.int) → sp w [.ref a] H (fun v _ => v = .bl true) fun _ _ _ => False)
    (hCX : ∀ (w : World) (H : Hp) (s : Shared) (e : Value) (s' : Shared), CX w [] H s (fun _ _ _ => False) e s' → False) :
    PySem.W.WalkO q loose XP YP l.row.toRowW d [] (fun f vs => PySem.call f vs) := by
  refine Att.attach_call hn hdf fun w s₀ s₁ mg mb fa o pm cd doc a vs ns G Y ho hd hcd hmg hobj hints hlen hg => ?_
  have KX := hY w _ Y
  obtain ⟨fd, hb, hF⟩ := F w mg fa _ KX G.T.g hmg
  exact law_call KX G.T.g G.T.b G.T.builtins G.T.nolimit hg hobj hints (Nat.le_trans hlen hn2) hr hF hb (fun H hO hS => hsp w H a ns hlen hO hS) fun H e s' => hCX w H s₁ e s'
end L2

/- THE LAST THEOREM (shape; LID, My.* are yours):
   My.Adr: a structure of the addresses that your layer names (classes, functions); My.Txt K t: a structure (Prop) of the equations over K;
   My.txt_mk : {K} {implicit addresses ..} (e1 : nsIn K mainGlobals "law" = some (some (.ref f))) (e2 : K.lookup f = some ⟨oc, od, .func (fnOf "law" "law" params body scope dV kV doc pm an cdv ct), sl⟩) (e3 : codeIn K cdv "law" = true) .. : ∃ t, My.Txt K t

set_option maxRecDepth 100000 in
set_option maxHeartbeats 0 in
(the tactic k_is has no namespace: write k_is) -/

/-! SHORT WORDS over the layer: a def of the text, its body, what a loop and a test want. -/
namespace L2
open PySem PySem.Spec PyProof.Rows

/-! ### the text by places -/
/-- the j-th statement of a class's body -/
def inClass (s : Stmt) (j : Nat) : Stmt := match s with
  | .ClassDef _ _ _ body _ _ _ _ _ _ _ => body.getD j (.Pass ⟨0, 0, 0, 0⟩)
  | _ => .Pass ⟨0, 0, 0, 0⟩
def defArgs (s : Stmt) : Arguments := match s with
  | .FunctionDef _ a _ _ _ _ _ _ _ _ => a
  | _ => { posonlyargs := [], args := [], vararg := none, kwonlyargs := [], kw_defaults := [], kwarg := none, defaults := [] }
def defBody (s : Stmt) : List Stmt := match s with
  | .FunctionDef _ _ b _ _ _ _ _ _ _ => b
  | _ => []
def defScope (s : Stmt) : Scope := match s with
  | .FunctionDef _ _ _ _ _ _ sc _ _ _ => sc
  | _ => { kind := .function, names := [], isGenerator := false, isCoroutine := false }

/-! ### no exception leaves a def -/
abbrev CX0 : CXT := fun _ _ _ _ _ _ => False
abbrev E0 : XK := fun _ _ _ => False
theorem pass0 {X : Cx} : Passes CX0 X E0 := fun _ _ _ _ _ _ _ h => h.elim

/-! ### a def (or method) of the text as it stands behind the top -/
structure Fun (K : PySem.W.Frag) (x qual : Str) (st : Stmt) (f : Addr) (fd : FuncData) : Prop where
  ex : ∃ (oc : Value) (od : Option Addr) (kV doc pm : Value) (an : Option Addr) (cdv ct : Value) (osl : Array (Option Value)),
    fd = PySem.W.fnOf x qual (defArgs st) (defBody st) (defScope st) .none kV doc pm an cdv ct ∧ K.lookup f = some ⟨oc, od, .func fd, osl⟩ ∧ PySem.W.codeIn K cdv qual = true
  kp : PySem.W.keepIn K (.ref f) = true
section
variable {P : Program} {w : World} {K : PySem.W.Frag} {mg : Str → Option Value} {base : Heap}
/-- THE RULE for a def: its body as a term of rules, and the reading of that term -/
theorem Fun.ok {x qual : Str} {st : Stmt} {f : Addr} {fd : FuncData} {N ps : List Str} {k : Nat} {sp : Sp} (F : Fun K x qual st f fd) (S : FnScope N ps (defScope st)) (len : ∀ vs H Q E, sp vs H Q E → vs.length = ps.length)
    (hbody : ∀ (cdv : Value) (A : Around) (outer : List Env) (s : Shared) (H : Hp) (vs : List V) (Q : VK) (E : XK), Room k (A.deeper (envOfC qual (defScope st) s.heap.objs.size f cdv)) → sp vs H Q E →
      ∃ t, PSs (cxOf CX0 P w K mg base N qual (defScope st) f cdv A outer s H E).nox (defBody st) t ∧ t { nx := fun _ H' => Q .non H', rt := Q } (start N vs) H) : FnOk P w K mg base CX0 (k + 1) f fd ps sp := by
  obtain ⟨oc, od, kV, doc, pm, an, cdv, ct, osl, rfl, lk, hcd⟩ := F.ex
  refine fn_of lk hcd S len fun A outer s H vs Q E hr hsp => ?_
  obtain ⟨t, h, q⟩ := hbody cdv A outer s H vs Q E hr hsp
  exact ⟨t, h.nox, q⟩
/-- how its arguments bind (no defaults): h is «fun _ _ _ _ _ _ us hl => match us, hl with | [_, _], _ => rfl», one _ a parameter -/
theorem Fun.binds {x qual : Str} {st : Stmt} {f : Addr} {fd : FuncData} {ps : List Str} (F : Fun K x qual st f fd)
    (h : ∀ (kV doc pm : Value) (an : Option Addr) (cdv ct : Value) (us : List Value), us.length = ps.length → bindArgs (PySem.W.fnOf x qual (defArgs st) (defBody st) (defScope st) .none kV doc pm an cdv ct) ⟨us, []⟩ = pure (ps.zip us)) : Binds K fd ps [] := by
  obtain ⟨oc, od, kV, doc, pm, an, cdv, ct, osl, rfl, lk, hcd⟩ := F.ex
  exact .all (h kV doc pm an cdv ct)
theorem fun_mk {x qual : Str} {st : Stmt} {f : Addr} {oc : Value} {od an : Option Addr} {osl : Array (Option Value)} {kV doc pm cdv ct : Value} (l : K.lookup f = some ⟨oc, od, .func (PySem.W.fnOf x qual (defArgs st) (defBody st) (defScope st) .none kV doc pm an cdv ct), osl⟩)
    (c : PySem.W.codeIn K cdv qual = true) (k : PySem.W.keepIn K (.ref f) = true) : Fun K x qual st f (PySem.W.fnOf x qual (defArgs st) (defBody st) (defScope st) .none kV doc pm an cdv ct) := ⟨⟨oc, od, kV, doc, pm, an, cdv, ct, osl, rfl, l, c⟩, k⟩
end
/-! ### expressions in short: the name that stands in the i-th slot -/
section
variable {X : Cx}
theorem pv (i : Nat) {x : Str} {pos : Pos} (hN : X.N[i]? = some x := by rfl) (hv : Vis X.env.scope x := by first | exact Or.inl rfl | exact Or.inr (Or.inl rfl) | exact Or.inr (Or.inr rfl)) (hd : (x == ("__debug__" : Str)) = false := by decide)
    (hcd : (x == ("__classdict__" : Str)) = false := by decide) : PE X (.Name x pos) (tVar i) := pe_var hN hv hd hcd
end

/-! ### tests -/
theorem iteF {A B : Prop} (h : B) : if false = true then A else B := by
  rw [if_neg Bool.false_ne_true]
  exact h
theorem iteT {A B : Prop} (h : A) : if true = true then A else B := by
  rw [if_pos rfl]
  exact h
theorem ite2 {c A B : Prop} [Decidable c] (h1 : c → A) (h2 : ¬ c → B) : if c then A else B := by
  by_cases h : c
  · rw [if_pos h]
    exact h1 h
  · rw [if_neg h]
    exact h2 h
theorem iteNS {c A B : Prop} [Decidable c] (hc : c) (h : B) : if (!decide c) = true then A else B := by
  rw [decide_eq_true hc]
  exact iteF h

/-! ### heaps -/
/-- all that was tracked is as it was -/
def Same (H H' : Hp) : Prop := ∀ b o, H b = some o → H' b = some o
theorem Same.refl (H : Hp) : Same H H := fun _ _ h => h
theorem Same.trans {H H1 H2 : Hp} (a : Same H H1) (b : Same H1 H2) : Same H H2 := fun c o h => b c o (a c o h)
theorem Same.free {H H' : Hp} (e : Same H H') {l : Addr} (h : H' l = Option.none) : H l = Option.none := by
  cases q : H l with
  | none => rfl
  | some o =>
    rw [e l o q] at h
    cases h
theorem Same.seq {K : PySem.W.Frag} {H H' : Hp} {a : Addr} {xs : List V} (e : Same H H') (h : SqL K H a xs) : SqL K H' a xs := by
  rcases h with (h | ⟨o, h⟩) | h
  · exact .inl (.inl (e _ _ h))
  · exact .inl (.inr ⟨o, e _ _ h⟩)
  · exact .inr h

end L2

namespace L2
open PySem PySem.Spec PyProof.Rows

theorem ObjOk.here {P : Program} {w : World} {H : Hp} {h : Heap} {a : Addr} {o : HO} (x : ObjOk P w H h a o) : ∃ ob, h.get? a = some ob := by
  cases o with
  | lst xs => obtain ⟨_, _, _, _, e⟩ := x; exact ⟨_, e⟩
  | tup xs => obtain ⟨_, _, _, ob, e, _⟩ := x; exact ⟨_, e⟩
  | dK kvs => obtain ⟨_, _, _, _, ob, _, _, e, _⟩ := x; exact ⟨_, e⟩
  | dT kvs => obtain ⟨_, _, _, _, ob, _, _, e, _⟩ := x; exact ⟨_, e⟩
  | set S n => obtain ⟨ob, _, _, _, e, _⟩ := x; exact ⟨_, e⟩
  | ins C dx fs => obtain ⟨_, _, _, e, _⟩ := x; exact ⟨_, e⟩
  | own y => exact x
  | xd fs => obtain ⟨_, ⟨_, _, _, e, _⟩, _⟩ := x; exact ⟨_, e⟩
  | rng lo hi => obtain ⟨_, _, _, e⟩ := x; exact ⟨_, e⟩
  | frz ob u => obtain ⟨e, _⟩ := x; exact ⟨_, e⟩
  | tbl ps => exact ⟨_, x⟩
  | met f y => exact ⟨_, x⟩
  | ext φ => obtain ⟨_, e, _⟩ := x; exact e
theorem mem_frs {env : Env} {l : List Env} {L : Addr} (hf : env.frame = some L) : L ∈ frs (env :: l) := by
  unfold frs; rw [List.filterMap_cons, hf]; exact List.mem_cons_self
theorem mem_frs_tail {env : Env} {l : List Env} {L b : Addr} (hf : env.frame = some L) (hb : b ∈ frs l) : b ∈ frs (env :: l) := by
  unfold frs at *; rw [List.filterMap_cons, hf]; exact List.mem_cons_of_mem _ hb
theorem frames_over {h base base' : Heap} : ∀ {l : List Env}, h.FunFrames base l → (∀ b ∈ frs l, base'.get? b = none) → h.FunFrames base' l
  | [], _, _ => trivial
  | _ :: _, ⟨hk, ⟨L, o, hf, _, ho, hd⟩, hr⟩, k => ⟨hk, ⟨L, o, hf, k L (mem_frs hf), ho, hd⟩, frames_over hr fun b hb => k b (mem_frs_tail hf hb)⟩
/-- an exception in flight, behind a call that began with the heap s -/
structure Fly (base : Heap) (outer : List Env) (H : Hp) (s h : Heap) (e : Addr) (cls : Value) : Prop where
  stays : base.StaysIn h
  frames : h.FunFrames base outer
  baseE : base.get? e = none
  newE : s.get? e = none
  freeE : H e = none
  tr : ∃ oe vs T oT ts, h.get? e = some oe ∧ oe.cls = cls ∧ oe.data = .fields vs ∧ vs[1]? = some (.ref T) ∧ T ≠ e ∧ h.get? T = some oT ∧ oT.data = .fields ts ∧ ts[3]? = some .none ∧ base.get? T = none ∧ s.get? T = none ∧ H T = none
/-- how it lies behind a call -/
def CXe (P : Program) (w : World) (base : Heap) : CXT := fun outer H s E e s' =>
  ∃ (ea C : Addr) (H' : Hp), e = .ref ea ∧ s'.os = s.os ∧ AllBare s'.gens ∧ Un (frs outer) [] H H' s.heap s'.heap ∧ HOk P w H' s'.heap ∧ Fly base outer H' s.heap s'.heap ea (.ref C) ∧ E (.ref C) none H'

section
variable {X : Cx} {pins : List (Addr × Obj)} {σ : St} {H : Hp} {s : Shared} {e : Addr} {cls : Value}
/-- an exception just made leaves the frame -/
theorem lv_new {h1 : Heap} {vs : List Value} {Q : Unit → Shared → Prop} {E : Value → Shared → Prop} (I : Inv X pins σ H s) (hst : X.stack = X.env :: X.outer) (hf : X.env.frame = some X.env.locals) (hex : X.ex = [])
    (hx : Heap.MadeExcOf s.heap h1 e cls vs)
    (hQ : ∀ h', Un X.fs [] X.H₀ H X.s₀.heap h' → HOk X.prog X.w H h' → Fly X.base X.outer H X.s₀.heap h' e cls → Q () { s with heap := h' }) :
    wpAny (model X.prog X.w) X.A (leaving X.env (.ref e)) Q E { s with heap := h1 } := by
  have hfs := I.stack
  rw [hst] at hfs
  have hfr : X.A.frames = some (X.env :: X.outer) := by rw [← hst]; exact I.ok.frames
  have fmem : ∀ b ∈ frs (X.env :: X.outer), X.base.get? b = none ∧ ∃ o, s.heap.get? b = some o ∧ ∀ vs, o.data ≠ .fields vs := fun b hb => hfs.mem hb
  have funt : ∀ b ∈ frs (X.env :: X.outer), H b = none := fun b hb => I.stkFree b (by rw [hst]; exact hb)
  have bget : ∀ b o, b ∉ frs (X.env :: X.outer) → s.heap.get? b = some o → (PySem.W.hideAll s.heap (frs (X.env :: X.outer))).get? b = some o := fun b o n q => PySem.W.hideAll_get _ q n
  have bof : ∀ b o, (PySem.W.hideAll s.heap (frs (X.env :: X.outer))).get? b = some o → s.heap.get? b = some o := fun b o q => PySem.W.of_hideAll _ q
  have bno : ∀ b ∈ frs (X.env :: X.outer), (PySem.W.hideAll s.heap (frs (X.env :: X.outer))).get? b = none := fun b hb => PySem.W.hideAll_none _ hb
  have none_of : ∀ b, s.heap.get? b = none → (PySem.W.hideAll s.heap (frs (X.env :: X.outer))).get? b = none := fun b q => by
    cases r : (PySem.W.hideAll s.heap (frs (X.env :: X.outer))).get? b with
    | none => rfl
    | some o => rw [bof b o r] at q; cases q
  obtain ⟨t, he, _, _⟩ := hx.there
  refine wpAny_leaving_first (base := PySem.W.hideAll s.heap (frs (X.env :: X.outer))) hfr (frames_over (hfs.of_keeps fun b o hb _ => ⟨o, hx.keeps b o hb, rfl⟩) bno) hf he (fun b o q => hx.keeps b o (bof b o q)) (none_of e hx.new) rfl rfl fun h' hL => ?_
  obtain ⟨k1, k2, k3, k4⟩ := hL
  have neL : ∀ b o, X.s₀.heap.get? b = some o → b ≠ X.env.locals := fun b o q => Nat.ne_of_lt (Nat.lt_of_lt_of_le (Heap.lt_size q) I.ok.above)
  have inS : ∀ b, b ∈ frs (X.env :: X.outer) → b = X.env.locals ∨ b ∈ X.fs := fun b hb => by
    rcases List.mem_cons.mp (I.stkSub b (by rw [hst]; exact hb)) with z | z
    · exact .inl z
    · exact .inr z
  have keep : ∀ b o, b ∉ frs (X.env :: X.outer) → s.heap.get? b = some o → h'.get? b = some o := fun b o n q => k1 b o (bget b o n q)
  have slot : ∀ b o, b ∈ frs (X.env :: X.outer) → s.heap.get? b = some o → ∃ sl, h'.get? b = some { o with slots := sl } := fun b o hb q => by
    obtain ⟨_, o', q', nf⟩ := fmem b hb
    rw [q] at q'; cases q'
    exact k4 b o (hx.keeps b o q) nf
  have there0 : ∀ b, s.heap.get? b = none → X.s₀.heap.get? b = none := fun b q => by
    cases r : X.s₀.heap.get? b with
    | none => rfl
    | some o =>
      obtain ⟨o', z⟩ := I.base.there b o r (by rw [hex]; simp)
      rw [z] at q; cases q
  have trk : ∀ b o, H b = some o → b ∉ frs (X.env :: X.outer) := fun b o q hb => by rw [funt b hb] at q; cases q
  refine hQ h' ⟨fun b o q n hb _ => ?_, fun b o q n hb _ => ?_, fun b o q n _ => I.base.free b o q n (by rw [hex]; simp), fun b o q _ => ?_, I.base.tups, I.base.frzs, I.base.tbls⟩ (fun b o q => ?_) ⟨fun b o q => ?_, ?_, ?_, there0 e hx.new, ?_, ?_⟩
  · refine keep b o (fun z => ?_) (I.base.keep b o q n hb (by rw [hex]; simp))
    rcases inS b z with z | z
    · exact neL b o q z
    · exact hb z
  · obtain ⟨sl, q1⟩ := I.base.slot b o q n hb (by rw [hex]; simp)
    obtain ⟨sl', q2⟩ := slot b _ (mem_frs_tail hf hb) q1
    exact ⟨sl', q2⟩
  · obtain ⟨o', q1⟩ := I.base.there b o q (by rw [hex]; simp)
    by_cases hb : b ∈ frs (X.env :: X.outer)
    · obtain ⟨sl, q2⟩ := slot b o' hb q1
      exact ⟨_, q2⟩
    · exact ⟨_, keep b o' hb q1⟩
  · exact (I.hok b o q).stay (fun c u hc r => keep c u (by
      rcases hc with rfl | hc
      · exact trk _ _ q
      · exact trk _ _ hc) r) (fun _ z => z) fun _ _ z => z
  · refine keep b o (fun z => ?_) (I.bk b o q)
    rw [(fmem b z).1] at q; cases q
  · obtain ⟨_, _, k2⟩ := frames_over k2 (base' := X.base) fun b hb => (fmem b hb).1
    exact k2
  · cases r : X.base.get? e with
    | none => rfl
    | some o => have := I.bk e o r; rw [hx.new] at this; cases this
  · cases r : H e with
    | none => rfl
    | some o => obtain ⟨ob, z⟩ := (I.hok e o r).here; rw [hx.new] at z; cases z
  · obtain ⟨oe, ws, T, oT, ts, t1, t2, t3, t4, t5, t6, t7, t8, t9⟩ := k3
    have tf : T ∉ frs (X.env :: X.outer) := fun z => by
      obtain ⟨_, o', q', nf⟩ := k2.mem z
      rw [t7] at q'; cases q'
      exact nf ts t8
    have tn : s.heap.get? T = none := by
      cases r : s.heap.get? T with
      | none => rfl
      | some o => rw [bget T o tf r] at t5; cases t5
    refine ⟨oe, ws, T, oT, ts, t1, t2, t3, t4, t6, t7, t8, t9, ?_, there0 T tn, ?_⟩
    · cases r : X.base.get? T with
      | none => rfl
      | some o => have := I.bk T o r; rw [tn] at this; cases this
    · cases r : H T with
      | none => rfl
      | some o => obtain ⟨ob, z⟩ := (I.hok T o r).here; rw [tn] at z; cases z
end
end L2
namespace L2
open PySem PySem.Spec PyProof.Rows
section
variable {X : Cx} {pins : List (Addr × Obj)} {σ : St} {H H' : Hp} {s s' : Shared} {e : Addr} {cls : Value}
/-- an exception of a callee leaves the frame too -/
theorem lv_on {Q : Unit → Shared → Prop} {E : Value → Shared → Prop} (I : Inv X pins σ H s) (hst : X.stack = X.env :: X.outer) (hf : X.env.frame = some X.env.locals) (hex : X.ex = [])
    (u : Un (frs X.stack) [] H H' s.heap s'.heap) (hok : HOk X.prog X.w H' s'.heap) (fl : Fly X.base X.stack H' s.heap s'.heap e cls)
    (hQ : ∀ h', Un X.fs [] X.H₀ H' X.s₀.heap h' → HOk X.prog X.w H' h' → Fly X.base X.outer H' X.s₀.heap h' e cls → Q () { s' with heap := h' }) :
    wpAny (model X.prog X.w) X.A (leaving X.env (.ref e)) Q E s' := by
  obtain ⟨y1, y2, y3, y4, y5, oe, ws, T, oT, ts, t1, t2, t3, t4, t6, t7, t8, t9, t10, t11, t12⟩ := fl
  rw [hst] at y2 u
  have hfs := I.stack
  rw [hst] at hfs
  have hfr : X.A.frames = some (X.env :: X.outer) := by rw [← hst]; exact I.ok.frames
  have fbase : ∀ b ∈ frs (X.env :: X.outer), X.base.get? b = none := fun b hb => (hfs.mem hb).1
  have fdat : ∀ b ∈ frs (X.env :: X.outer), ∃ o, s'.heap.get? b = some o ∧ ∀ vs, o.data ≠ .fields vs := fun b hb => (y2.mem hb).2
  have funt : ∀ b ∈ frs (X.env :: X.outer), H' b = none := fun b hb => by
    obtain ⟨_, o, ho, _⟩ := hfs.mem hb
    exact u.free b o ho (I.stkFree b (by rw [hst]; exact hb)) (by simp)
  have bget : ∀ b o, b ∉ e :: T :: frs (X.env :: X.outer) → s'.heap.get? b = some o → (PySem.W.hideAll s'.heap (e :: T :: frs (X.env :: X.outer))).get? b = some o := fun b o n q => PySem.W.hideAll_get _ q n
  have bof : ∀ b o, (PySem.W.hideAll s'.heap (e :: T :: frs (X.env :: X.outer))).get? b = some o → s'.heap.get? b = some o := fun b o q => PySem.W.of_hideAll _ q
  have bno : ∀ b ∈ e :: T :: frs (X.env :: X.outer), (PySem.W.hideAll s'.heap (e :: T :: frs (X.env :: X.outer))).get? b = none := fun b hb => PySem.W.hideAll_none _ hb
  refine wpAny_leaving_next (base := PySem.W.hideAll s'.heap (e :: T :: frs (X.env :: X.outer))) (cls := cls) hfr (frames_over y2 fun b hb => bno b (by simp [hb])) hf
    ⟨oe, ws, T, oT, ts, t1, t2, t3, t4, bno T (by simp), t6, t7, t8, t9⟩ (fun b o q => bof b o q) (bno e (by simp)) fun h' hL => ?_
  obtain ⟨k1, k2, k3, k4⟩ := hL
  have neL : ∀ b o, X.s₀.heap.get? b = some o → b ≠ X.env.locals := fun b o q => Nat.ne_of_lt (Nat.lt_of_lt_of_le (Heap.lt_size q) I.ok.above)
  have inS : ∀ b, b ∈ frs (X.env :: X.outer) → b = X.env.locals ∨ b ∈ X.fs := fun b hb => by
    rcases List.mem_cons.mp (I.stkSub b (by rw [hst]; exact hb)) with z | z
    · exact .inl z
    · exact .inr z
  have keep : ∀ b o, b ∉ frs (X.env :: X.outer) → b ≠ e → b ≠ T → s'.heap.get? b = some o → h'.get? b = some o := fun b o n n1 n2 q => k1 b o (bget b o (by simp [n, n1, n2]) q)
  have slot : ∀ b o, b ∈ frs (X.env :: X.outer) → s'.heap.get? b = some o → ∃ sl, h'.get? b = some { o with slots := sl } := fun b o hb q => by
    obtain ⟨o', q', nf⟩ := fdat b hb
    rw [q] at q'; cases q'
    exact k4 b o q nf
  have old : ∀ b o, s.heap.get? b = some o → b ≠ e ∧ b ≠ T := fun b o q => ⟨fun z => (by rw [z, y4] at q; cases q), fun z => (by rw [z, t11] at q; cases q)⟩
  have there0 : ∀ b, s.heap.get? b = none → X.s₀.heap.get? b = none := fun b q => by
    cases r : X.s₀.heap.get? b with
    | none => rfl
    | some o =>
      obtain ⟨o', z⟩ := I.base.there b o r (by rw [hex]; simp)
      rw [z] at q; cases q
  have trk : ∀ b o, H' b = some o → b ∉ frs (X.env :: X.outer) ∧ b ≠ e ∧ b ≠ T := fun b o q => ⟨fun hb => (by rw [funt b hb] at q; cases q), fun z => (by rw [z, y5] at q; cases q), fun z => (by rw [z, t12] at q; cases q)⟩
  refine hQ h' ⟨fun b o q n hb _ => ?_, fun b o q n hb _ => ?_, fun b o q n _ => ?_, fun b o q _ => ?_, fun b xs q => u.tups b xs (I.base.tups b xs q), fun b o x q => u.frzs b o x (I.base.frzs b o x q), fun b ps q => ?_⟩ (fun b o q => ?_) ⟨fun b o q => ?_, ?_, y3, there0 e y4, y5, ?_⟩
  · have q1 := I.base.keep b o q n hb (by rw [hex]; simp)
    have n1 := I.base.free b o q n (by rw [hex]; simp)
    have nf : b ∉ frs (X.env :: X.outer) := fun z => by
      rcases inS b z with z | z
      · exact neL b o q z
      · exact hb z
    exact keep b o nf (old b o q1).1 (old b o q1).2 (u.keep b o q1 n1 nf (by simp))
  · obtain ⟨sl, q1⟩ := I.base.slot b o q n hb (by rw [hex]; simp)
    have n1 := I.base.free b o q n (by rw [hex]; simp)
    obtain ⟨sl2, q2⟩ := u.slot b _ q1 n1 (mem_frs_tail hf hb) (by simp)
    obtain ⟨sl', q3⟩ := slot b _ (mem_frs_tail hf hb) q2
    exact ⟨sl', q3⟩
  · obtain ⟨o', q1⟩ := I.base.there b o q (by rw [hex]; simp)
    exact u.free b o' q1 (I.base.free b o q n (by rw [hex]; simp)) (by simp)
  · obtain ⟨o', q1⟩ := I.base.there b o q (by rw [hex]; simp)
    obtain ⟨o2, q2⟩ := u.there b o' q1 (by simp)
    by_cases hb : b ∈ frs (X.env :: X.outer)
    · obtain ⟨sl, q3⟩ := slot b o2 hb q2
      exact ⟨_, q3⟩
    · exact ⟨_, keep b o2 hb (old b o' q1).1 (old b o' q1).2 q2⟩
  · obtain ⟨m1, e1⟩ := I.base.tbls b ps q
    obtain ⟨m2, e2⟩ := u.tbls b _ e1
    exact ⟨m1 ++ m2, by rw [e2, Array.append_assoc]⟩
  · exact (hok b o q).stay (fun c v hc r => by
      have z : c ∉ frs (X.env :: X.outer) ∧ c ≠ e ∧ c ≠ T := by
        rcases hc with rfl | hc
        · exact trk _ _ q
        · exact trk _ _ hc
      exact keep c v z.1 z.2.1 z.2.2 r) (fun _ z => z) fun _ _ z => z
  · refine keep b o (fun z => by rw [fbase b z] at q; cases q) (fun z => by rw [z, y3] at q; cases q) (fun z => by rw [z, t10] at q; cases q) (y1 b o q)
  · obtain ⟨_, _, k2⟩ := frames_over k2 (base' := X.base) fun b hb => fbase b hb
    exact k2
  · obtain ⟨oe', ws', T', oT', ts', r1, r2, r3, r4, r5, r6, r7, r8, r9⟩ := k3
    by_cases hT : T' = T
    · subst hT
      exact ⟨oe', ws', T', oT', ts', r1, r2, r3, r4, r6, r7, r8, r9, t10, there0 T' t11, t12⟩
    · have tf : T' ∉ frs (X.env :: X.outer) := fun z => by
        obtain ⟨_, o', q', nf⟩ := k2.mem z
        rw [r7] at q'; cases q'
        exact nf ts' r8
      have tn : s'.heap.get? T' = none := by
        cases r : s'.heap.get? T' with
        | none => rfl
        | some o => rw [bget T' o (by simp [tf, r6, hT]) r] at r5; cases r5
      have tn0 : s.heap.get? T' = none := by
        cases r : s.heap.get? T' with
        | none => rfl
        | some o =>
          obtain ⟨o', z⟩ := u.there T' o r (by simp)
          rw [tn] at z; cases z
      refine ⟨oe', ws', T', oT', ts', r1, r2, r3, r4, r6, r7, r8, r9, ?_, there0 T' tn0, ?_⟩
      · cases r : X.base.get? T' with
        | none => rfl
        | some o => have := y1 T' o r; rw [tn] at this; cases this
      · cases r : H' T' with
        | none => rfl
        | some o => obtain ⟨ob, z⟩ := (hok T' o r).here; rw [tn] at z; cases z
end
section
variable {P : Program} {w : World} {K : PySem.W.Frag} {mg : Str → Option Value} {base : Heap} {N : List Str} {qual : Str} {scope : Scope} {f : Addr} {cd : Value} {A : Around} {outer : List Env} {s : Shared} {H : Hp} {E : XK}
/-- what a callee raises passes through a def's body -/
theorem passE : Passes (CXe P w base) (cxOf (CXe P w base) P w K mg base N qual scope f cd A outer s H E) E := by
  intro pins σ H1 s1 e s' I h
  obtain ⟨ea, C, H', rfl, os, bare, un, hok, fl, q⟩ := h
  exact lv_on I rfl rfl rfl un hok fl fun h' u' hok' fl' => ⟨ea, C, H', rfl, os.trans I.os, bare, u', hok', fl', q⟩
/-- an exception may be raised in X -/
def Throws (X : Cx) (E : XK) : Prop := ∀ (pins : List (Addr × Obj)) (σ : St) (H : Hp) (s : Shared) (h' : Heap) (e C : Addr) (vs : List Value), Inv X pins σ H s → Heap.MadeExcOf s.heap h' e (.ref C) vs → E (.ref C) none H → X.xe (.ref e) { s with heap := h' }
theorem throwE : Throws (cxOf (CXe P w base) P w K mg base N qual scope f cd A outer s H E) E := by
  intro pins σ H1 s1 h1 e C vs I hx q
  exact lv_new I rfl rfl rfl hx fun h' u' hok' fl' => ⟨e, C, H1, rfl, I.os, I.bare, u', hok', fl', q⟩
end
end L2

namespace My
open PySem PySem.Spec PySem.Calls PySem.W PyProof.Rows PySem.Builtin PySem.Builtin.ObjectAttr PySem.Builtin.Getset_descriptor
/-- at x stands an object of the own class at D -/
def ClsAt (x D : Addr) (h : Heap) : Prop := ∃ o, h.get? x = some o ∧ o.cls = .ref D
theorem clsAt_ty {x D : Addr} (M : Model) (h : Heap) (p : ClsAt x D h) : Looks M h (typeOf (.ref x)) (.ref D) := by
  obtain ⟨o, a, b⟩ := p
  exact b ▸ (Looks.ld a).andThen .now
theorem find_data {K : Frag} {M : Model} {h : Heap} (X : K.In h) {x D : Addr} {name : Str} {g a : Value} (ha : findIn K (.ref D) name = some (some a)) (hn : specialIn K a "__get__" = some (some g)) (htk : takesIn K a = some true) :
    Looks M h (find (.ref x) (.ref D) name) (.bind g a) :=
  (looks_findIn X ha).andThen ((show Looks M h (getOf (some a)) (some g) from looks_specialIn X hn).andThen ((show Looks M h (dataDescriptor? (some a) (some g)) (some (g, a)) from (looks_takesIn X htk).andThen .now).andThen (Looks.tag .now)))
section
variable {prog : Program} {w : World} {A : Around} {E : Value → Shared → Prop} {s : Shared} {K : Frag} {x D : Addr} {R : Result → Shared → Prop}
theorem class_of {tp : Value} (X : K.In s.heap) (p : ClsAt x D s.heap) (hm : mroIn K D (.type "object") = some true) (h : R (.ok (.ret (.ref D))) s) :
    codeAny (model prog w) A (.call (.builtin "getset_descriptor.__get__") ⟨[.builtin "object.__class__", .ref x, tp], []⟩) R s := by
  obtain ⟨h0, g0, d0, t0, o0⟩ := s
  have T0 := clsAt_ty (model prog w) h0 p
  have T1 := looks_mroIn (M := model prog w) X hm
  refine codeAny_call_builtin KF.slot_gs.plain KF.entry_gs (KF.slot_gs.check _ _ _ _ _ _ _ _ KF.type_class (KF.args_gs _ _ _) ?_)
  unfold Builtin.«getset_descriptor.__get__» descrGet
  rw [dga_obj]
  refine wpAny_bind (wpAny_pure ?_)
  unfold descrGetter descrCheckInstance descrNameAndClass isInstance
  simp only [KF.owner_class]
  repeat lk
  refine ⟨Code.quiet_builtin _ (by decide +kernel), codeAny_builtin KF.entry_class ?_⟩
  unfold Builtin.«object.__class__» shownTypeOf
  repeat lk
  exact h
theorem ga_check {M : Model} {Q : Unit → Shared → Prop} {nameV : Value} {h0 : Heap} {g0 : Array GenState} {d0 : Drawn} {t0 : Nat} {o0 : OsState} (T0 : Looks M h0 (typeOf (.ref x)) (.ref D)) (TS : Looks M h0 (isSubtype (.ref D) (.type "BaseException")) true) (hq : Q () ⟨h0, g0, d0, t0, o0⟩) :
    wpAny M A (checkBuiltinCall "BaseException.__getattribute__" ⟨[.ref x, nameV], []⟩) Q E ⟨h0, g0, d0, t0, o0⟩ := by
  have e1 : builtinKind "BaseException.__getattribute__" = some .slot := by decide +kernel
  have e2 : splitId "BaseException.__getattribute__" = some ("BaseException", "__getattribute__") := by decide +kernel
  have e3 := F.args_bexc_ga (.ref x) nameV
  simp only [checkBuiltinCall, e1, e2]
  refine wpAny_bind ?_
  unfold isInstance
  repeat (first | lk | wp_step)
  exact hq
theorem ga_entry {Q : Fin → Shared → Prop} {tk : Tok} {h0 : Heap} {g0 : Array GenState} {d0 : Drawn} {t0 : Nat} {o0 : OsState} (X : K.In h0) (p : ClsAt x D h0) (ha : findIn K (.ref D) "__class__" = some (some (.builtin "object.__class__")))
    (hn : specialIn K (.builtin "object.__class__") "__get__" = some (some (.builtin "getset_descriptor.__get__"))) (htk : takesIn K (.builtin "object.__class__") = some true) (hm : mroIn K D (.type "object") = some true) (hq : Q (.done (.ret (.ref D))) ⟨h0, g0, d0, t0, o0⟩) :
    wpAny (model prog w) A (Builtin.«object.__getattribute__» ⟨[.ref x, .str "__class__" tk], []⟩) Q E ⟨h0, g0, d0, t0, o0⟩ := by
  have T0 := clsAt_ty (model prog w) h0 p
  have T2 := find_data (M := model prog w) X (x := x) ha hn htk
  unfold Builtin.«object.__getattribute__»
  refine wpAny_bind (wpAny_pure ?_)
  repeat (first | (with_reducible refine wpAny_bind (T0.at ?_)) | (with_reducible refine wpAny_bind (T2.at ?_)) | wp_step)
  refine class_of (s := ⟨h0, g0, d0, t0, o0⟩) X p hm ?_
  repeat (any_goals (first | assumption | wp_step))
theorem class_attr {Q : Option Value → Shared → Prop} (hg : findIn K (.ref D) "__getattribute__" = some (some (.builtin "BaseException.__getattribute__"))) (hgg : findIn K (.ref D) "__getattr__" = some none) (hsb : subIn K (.ref D) (.type "BaseException") = some true) (ha : findIn K (.ref D) "__class__" = some (some (.builtin "object.__class__")))
    (hn : specialIn K (.builtin "object.__class__") "__get__" = some (some (.builtin "getset_descriptor.__get__"))) (htk : takesIn K (.builtin "object.__class__") = some true) (hm : mroIn K D (.type "object") = some true)
    (X : K.In s.heap) (p : ClsAt x D s.heap) (h : Q (some (.ref D)) { s with toks := s.toks + 1 }) : wpAny (model prog w) A (getAttr? (.ref x) "__class__") Q E s := by
  obtain ⟨h0, g0, d0, t0, o0⟩ := s
  have T0 := clsAt_ty (model prog w) h0 p
  have T1 := looks_findIn (M := model prog w) X hg
  have T3 := looks_findIn (M := model prog w) X hgg
  have TS := looks_subIn (M := model prog w) X hsb
  have f3 := F.excAttr_ValueError.ga.bind (.ref x)
  have hx2 : (Value.builtin "BaseException.__getattribute__" == Value.builtin "object.__getattribute__") = false := by decide +kernel
  have hx1 : (onTheHeap (Value.ref D) && Value.builtin "BaseException.__getattribute__" == Value.builtin "object.__getattribute__") = false := by rw [hx2]; rfl
  unfold getAttr? getAttrBy? getAttrBy
  refine wpAny_bind (wpAny_mkText (wpAny_bind (wpAny_attempt (wpAny_holding (wpAny_bind (T0.at (wpAny_bind (T1.at ?_))))))))
  dsimp only
  rw [if_neg (by rw [hx1]; exact Bool.false_ne_true)]
  unfold getAttrByItsOwn hookBefore
  rw [if_pos (show onTheHeap (Value.ref D) = true from rfl)]
  refine wpAny_bind (T3.at ?_)
  repeat (any_goals (first | assumption | wp_step | lk))
  refine codeAny_call_builtin F.excAttr_ValueError.ga.plain F.entry_bexc_ga (ga_check T0 TS (ga_entry (K := K) X p ha hn htk hm ?_))
  repeat (any_goals (first | assumption | wp_step))
theorem kitx_exc (hg : findIn K (.ref D) "__getattribute__" = some (some (.builtin "BaseException.__getattribute__"))) (hgg : findIn K (.ref D) "__getattr__" = some none) (hsb : subIn K (.ref D) (.type "BaseException") = some true) (hd : hasDictIn K D = true) (ha : findIn K (.ref D) "__class__" = some (some (.builtin "object.__class__")))
    (hn : specialIn K (.builtin "object.__class__") "__get__" = some (some (.builtin "getset_descriptor.__get__"))) (htk : takesIn K (.builtin "object.__class__") = some true) (hm : mroIn K D (.type "object") = some true) :
    KitX K (.ref x) (.ref D) (ClsAt x D) where
  ty := fun M h _ p => clsAt_ty M h p
  it := fun M h X _ => by
    obtain ⟨c, hc, _⟩ := any_some hd
    unfold clsIn at hc
    split at hc
    · rename_i u1 u2 u3 u4 ho
      intro A' Q' E' s' k q
      unfold isType loadHead; exact wpAny_bind (wpAny_loadPart (k _ _ (X _ _ ho)) (wpAny_pure q))
    · cases hc
  ne := fun h tp dd its n sl X e => by
    obtain ⟨c, hc, _⟩ := any_some hd
    refine Bool.eq_false_iff.mpr fun q => ?_
    obtain rfl : D = tp := Value.ref.inj (beq_iff_eq.mp q)
    unfold clsIn at hc
    split at hc
    · rename_i u1 u2 u3 u4 ho
      have z := (X _ _ ho).symm.trans e; cases z
    · cases hc
  ca := fun X p k => class_attr hg hgg hsb ha hn htk hm X p k
end
end My

namespace L2
open PySem PySem.Spec PyProof.Rows
section
variable {X : Cx} {pins : List (Addr × Obj)} {σ : St} {H H' : Hp} {s s' : Shared} {e C : Addr}
/-- behind a callee's exception: what stays, whatever is noted in it and in the frames; T: its newest entry -/
structure Mid (X : Cx) (H' : Hp) (s : Heap) (s' : Heap) (e C : Addr) (B : Heap) (a0 : Value) (T : Addr) (h : Heap) : Prop where
  fly : Heap.FlyingW B (X.env :: X.outer) e (.ref C) a0 h
  slots : s'.UpToSlots h
theorem mid_inv {B h : Heap} {a0 : Value} {T : Addr} (I : Inv X pins σ H s) (hst : X.stack = X.env :: X.outer)
    (u : Un (frs X.stack) [] H H' s.heap s'.heap) (hok : HOk X.prog X.w H' s'.heap) (bare : AllBare s'.gens) (os : s'.os = s.os) (fl : Fly X.base X.stack H' s.heap s'.heap e (.ref C))
    (nT : s.heap.get? T = none) (fT : H' T = none) (hB : ∀ b o, b ∉ e :: T :: frs X.stack → s'.heap.get? b = some o → B.get? b = some o) (hfl : B.StaysIn h) (hsl : s'.heap.UpToSlots h) :
    Inv X pins σ H' { s' with heap := h } := by
  obtain ⟨y1, y2, y3, y4, y5, _⟩ := fl
  have fdat : ∀ b ∈ frs X.stack, ∃ o, s'.heap.get? b = some o ∧ ∀ vs, o.data ≠ .fields vs := fun b hb => (y2.mem hb).2
  have keep : ∀ b o, b ∉ frs X.stack → b ≠ e → b ≠ T → s'.heap.get? b = some o → h.get? b = some o := fun b o n n1 n2 q => hfl b o (hB b o (by simp [n, n1, n2]) q)
  have slot : ∀ b o, b ∈ frs X.stack → s'.heap.get? b = some o → ∃ sl, h.get? b = some { o with slots := sl } := fun b o hb q => by
    obtain ⟨o', q', nf⟩ := fdat b hb
    rw [q] at q'; cases q'
    exact hsl b o q nf
  have old : ∀ b o, s.heap.get? b = some o → b ≠ e ∧ b ≠ T := fun b o q => ⟨fun z => (by rw [z, y4] at q; cases q), fun z => (by rw [z, nT] at q; cases q)⟩
  have funt : ∀ b ∈ frs X.stack, H' b = none := fun b hb => by
    obtain ⟨_, o, ho, _⟩ := I.stack.mem hb
    exact u.free b o ho (I.stkFree b hb) (by simp)
  have trk : ∀ b o, H' b = some o → b ∉ frs X.stack ∧ b ≠ e ∧ b ≠ T := fun b o q => ⟨fun hb => (by rw [funt b hb] at q; cases q), fun z => (by rw [z, y5] at q; cases q), fun z => (by rw [z, fT] at q; cases q)⟩
  refine I.call' (s' := { s' with heap := h }) (ch := []) os ⟨fun b o q n hb _ => ?_, fun b o q n hb _ => ?_, u.free, fun b o q _ => ?_, u.tups, u.frzs, u.tbls⟩ (fun b o q => ?_) bare (fun b z => absurd z (by simp))
  · exact keep b o hb (old b o q).1 (old b o q).2 (u.keep b o q n hb (by simp))
  · obtain ⟨sl, q1⟩ := u.slot b o q n hb (by simp)
    obtain ⟨sl', q2⟩ := slot b _ hb q1
    exact ⟨sl', q2⟩
  · obtain ⟨o', q1⟩ := u.there b o q (by simp)
    by_cases hb : b ∈ frs X.stack
    · obtain ⟨sl, q2⟩ := slot b o' hb q1
      exact ⟨_, q2⟩
    · exact ⟨_, keep b o' hb (old b o q).1 (old b o q).2 q1⟩
  · exact (hok b o q).stay (fun c v hc r => by
      have z : c ∉ frs X.stack ∧ c ≠ e ∧ c ≠ T := by
        rcases hc with rfl | hc
        · exact trk _ _ q
        · exact trk _ _ hc
      exact keep c v z.1 z.2.1 z.2.2 r) (fun _ z => z) fun _ _ z => z
end
end L2

namespace L2
open PySem PySem.Spec PyProof.Rows
section
variable {X : Cx} {pins : List (Addr × Obj)} {σ : St} {H H' : Hp} {s s' : Shared} {e C : Addr}
/-- a local name is let go -/
theorem unbind_ok {M : Model} {A : Around} {E : Value → Shared → Prop} {i : Nat} {n : Str} {pos : Pos} {Q : Unit → Shared → Prop} (I : Inv X pins σ H s) (hN : X.N.Nodup) (hi : X.N[i]? = some n) (hk : X.env.kindOf n = some .local)
    (h : ∀ s', Inv X pins (σ.set i none) H s' → Q () s') : wpAny M A (do bindName X.env n .none; unbindBehindTheSuite X.env n pos) Q E s := by
  obtain ⟨m, hn, hl⟩ := id I.loc
  have hcls : (X.env.scope.kind == .class || (X.env.scope.kind == .module && X.env.locals != X.env.globals)) = false := by rw [I.ok.kind]; rfl
  have hiσ : i < σ.length := by rw [I.len]; exact (List.getElem?_eq_some_iff.mp hi).1
  have below : ∀ b o, X.s₀.heap.get? b = some o → b ≠ X.env.locals := fun b o q => Nat.ne_of_lt (Nat.lt_of_lt_of_le (Heap.lt_size q) I.ok.above)
  refine wpAny_nameGoes_keeps hk hn hcls fun h' v hn' hs => ?_
  refine h _ ⟨I.ok, I.os, I.bare, ⟨fun b o q nb hb hx => ?_, fun b o q nb hb hx => ?_, I.base.free, fun b o q hx => ?_, I.base.tups, I.base.frzs, I.base.tbls⟩, ⟨_, hn', fun j y v' e1 e2 e3 => ?_⟩, fun y c q => ?_, I.free, I.freeC, fun p hp => ?_, fun b ob q => ?_, by simpa using I.len⟩
  · exact (hs.2 b (below b o q)).trans (I.base.keep b o q nb hb hx)
  · obtain ⟨sl, q1⟩ := I.base.slot b o q nb hb hx
    exact ⟨sl, (hs.2 b (below b o q)).trans q1⟩
  · obtain ⟨o', q1⟩ := I.base.there b o q hx
    exact ⟨o', (hs.2 b (below b o q)).trans q1⟩
  · by_cases hj : j = i
    · subst hj
      rw [List.getElem?_set_self hiσ] at e2
      cases e2
    · rw [List.getElem?_set_ne (Ne.symm hj)] at e2
      obtain ⟨u', r', q⟩ := hl j y v' e1 e2 e3
      refine ⟨u', r', ?_⟩
      rcases q with ⟨k, q⟩ | ⟨k, c, q, z⟩
      · refine .inl ⟨k, ?_⟩
        have : y ≠ n := fun z => hj (nodup_ix hN e1 (z ▸ hi))
        simp [this, q]
      · exact .inr ⟨k, c, q, z.sameBut hs (I.cne y c q)⟩
  · obtain ⟨w', z⟩ := I.cell y c q
    exact ⟨w', z.sameBut hs (I.cne y c q)⟩
  · obtain ⟨q, nb, ne, nf, d⟩ := I.pin p hp
    exact ⟨(hs.2 p.1 ne).trans q, nb, ne, nf, d⟩
  · refine (I.hok b ob q).stay (fun c w' hc r => (hs.2 c ?_).trans r) (fun _ z => z) fun _ _ z => z
    rintro rfl
    rcases hc with z | z
    · rw [← z, I.free] at q; cases q
    · rw [I.free] at z; cases z
/-- an exception of the class C stands at e, caught in X -/
def Landed (X : Cx) (pins : List (Addr × Obj)) (σ : St) (H' : Hp) (e C : Addr) (s1 : Shared) : Prop :=
  ∃ (H : Hp) (s s' : Shared) (B : Heap) (a0 : Value) (T : Addr), Inv X pins σ H s ∧ Un (frs X.stack) [] H H' s.heap s'.heap ∧ HOk X.prog X.w H' s'.heap ∧ AllBare s'.gens ∧ s'.os = s.os ∧ Fly X.base X.stack H' s.heap s'.heap e (.ref C) ∧
    s.heap.get? T = none ∧ H' T = none ∧ (∀ b o, b ∉ e :: T :: frs X.stack → s'.heap.get? b = some o → B.get? b = some o) ∧ Heap.FlyingW B (X.env :: X.outer) e (.ref C) a0 s1.heap ∧ s'.heap.UpToSlots s1.heap ∧ s1 = { s' with heap := s1.heap }
theorem Landed.inv {s1 : Shared} (l : Landed X pins σ H' e C s1) (hst : X.stack = X.env :: X.outer) : Inv X pins σ H' s1 := by
  obtain ⟨H, s, s', B, a0, T, I, u, hok, bare, os, fl, nT, fT, hB, hfl, hsl, es⟩ := l
  rw [es]
  exact mid_inv (a0 := a0) I hst u hok bare os fl nT fT hB hfl.1 hsl
theorem Landed.cls {s1 : Shared} (l : Landed X pins σ H' e C s1) : My.ClsAt e C s1.heap := by
  obtain ⟨H, s, s', B, a0, T, I, u, hok, bare, os, fl, nT, fT, hB, hfl, hsl, es⟩ := l
  exact hfl.there
theorem Landed.free {s1 : Shared} (l : Landed X pins σ H' e C s1) : H' e = none := by
  obtain ⟨H, s, s', B, a0, T, I, u, hok, bare, os, fl, _⟩ := l
  exact fl.freeE
/-- once more -/
theorem Landed.again {s1 : Shared} {M : Model} {A : Around} {E : Value → Shared → Prop} {Q : Unit → Shared → Prop} (l : Landed X pins σ H' e C s1) (h : ∀ s2, Landed X pins σ H' e C s2 → Q () s2) : wpAny M A (setFlight (.ref e) none) Q E s1 := by
  obtain ⟨H, s, s', B, a0, T, I, u, hok, bare, os, fl, nT, fT, hB, hfl, hsl, es⟩ := l
  refine lands_againW hfl fun h' f2 u2 => h _ ⟨H, s, s', B, a0, T, I, u, hok, bare, os, fl, nT, fT, hB, f2, hsl.trans u2, ?_⟩
  show ({ s1 with heap := h' } : Shared) = { s' with heap := h' }
  rw [es]
/-- from a callee's exception to the handlers -/
theorem land {E : XK} {ev : Value} {E' : Value → Shared → Prop} {F : Shared → Prop} (I : Inv X pins σ H s) (hst : X.stack = X.env :: X.outer) (hf : X.env.frame = some X.env.locals) (h : CXe X.prog X.w X.base X.stack H s E ev s')
    (k : ∀ e C H' s1, ev = .ref e → E (.ref C) none H' → Landed X pins σ H' e C s1 → F s1) :
    wpAny (model X.prog X.w) X.A (noteFrame ev X.env) (fun _ s2 => wpAny (model X.prog X.w) X.A (setFlight ev none) (fun _ s3 => F s3) E' s2) E' s' := by
  obtain ⟨e, C, H', rfl, os, bare, u, hok, fl, q⟩ := h
  obtain ⟨y1, y2, y3, y4, y5, oe, ws, T, oT, ts, t1, t2, t3, t4, t6, t7, t8, t9, t10, t11, t12⟩ := id fl
  have hfr : X.A.frames = some (X.env :: X.outer) := by rw [← hst]; exact I.ok.frames
  have bno : ∀ b ∈ e :: T :: frs (X.env :: X.outer), (PySem.W.hideAll s'.heap (e :: T :: frs (X.env :: X.outer))).get? b = none := fun b hb => PySem.W.hideAll_none _ hb
  have bof : ∀ b o, (PySem.W.hideAll s'.heap (e :: T :: frs (X.env :: X.outer))).get? b = some o → s'.heap.get? b = some o := fun b o q => PySem.W.of_hideAll _ q
  have sz : 1 < ws.size := (Array.getElem?_eq_some_iff.mp t4).1
  have fw : Heap.FlyingW (PySem.W.hideAll s'.heap (e :: T :: frs (X.env :: X.outer))) (X.env :: X.outer) e (.ref C) ws[0] s'.heap :=
    ⟨fun b o q => bof b o q, bno e (by simp), frames_over (hst ▸ y2) (fun b hb => bno b (by simp [hb])), oe, ws, T, oT, ts, t1, ⟨t2, by simp⟩, t3, t4, bno T (by simp), t6, t7, t8, t9⟩
  refine wpAny_looks_onW hfr hf fw fun h1 k1 u1 => ?_
  refine wpAny_landsW k1 fun h2 k2 u2 => ?_
  refine k e C H' _ rfl q ⟨H, s, s', _, _, T, I, u, hok, bare, os, fl, t11, t12, fun b o hb r => ?_, k2, u1.trans u2, rfl⟩
  rw [hst] at hb
  exact PySem.W.hideAll_get _ r hb
end
end L2

namespace L2
open PySem PySem.Spec PyProof.Rows
/-- within an except suite: the exception at e is being handled, nothing may be raised -/
abbrev Cx.exc (X : Cx) (e : Addr) : Cx := { X with A := X.A.mark (some (.ref e)), calm := false, xe := fun _ _ => False }
theorem Cx.Ok.exc {X : Cx} (ok : X.Ok) (e : Addr) : (X.exc e).Ok :=
  ⟨ok.mod, ok.kind, ok.glob, ok.blt, ok.above, ok.inj, ok.has, ok.cab, (fun z => nomatch z), ok.frames, ok.stk, ok.exf, ok.bs, ok.bsz, ok.noex, ok.exfs, ok.funs, ok.frf⟩
section
variable {X : Cx} {pins : List (Addr × Obj)} {σ : St} {H H' : Hp} {s s' : Shared} {e C : Addr}
theorem Inv.exc (I : Inv X pins σ H s) (e : Addr) : Inv (X.exc e) pins σ H s := ⟨I.ok.exc e, I.os, I.bare, I.base, I.loc, I.cell, I.free, I.freeC, I.pin, I.hok, I.len⟩
theorem Inv.unexc (I : Inv (X.exc e) pins σ H s) (ok : X.Ok) : Inv X pins σ H s := ⟨ok, I.os, I.bare, I.base, I.loc, I.cell, I.free, I.freeC, I.pin, I.hok, I.len⟩
/-- the exception as a tracked thing -/
def excO (e C : Addr) : HO := .ext (My.ClsAt e C)
theorem Landed.held {s1 : Shared} (l : Landed X pins σ H' e C s1) (hst : X.stack = X.env :: X.outer) : Inv X pins σ (upd H' e (excO e C)) s1 := by
  have J := l.inv hst
  have fe := l.free
  obtain ⟨oe, he, hc⟩ := l.cls
  obtain ⟨H, s, s', B, a0, T, I, u, hok, bare, os, fl, _⟩ := l
  have ne : ∀ b o, s.heap.get? b = some o → b ≠ e := fun b o q z => by rw [z, fl.newE] at q; cases q
  have ne0 : ∀ b o, X.s₀.heap.get? b = some o → b ∉ X.ex → b ≠ e := fun b o q hx => by
    obtain ⟨o', q1⟩ := I.base.there b o q hx
    exact ne b o' q1
  have neH : ∀ b o, H' b = some o → b ≠ e := fun b o q z => by rw [z, fe] at q; cases q
  refine ⟨J.ok, J.os, J.bare, ⟨J.base.keep, J.base.slot, fun b o q n hx => ?_, J.base.there, fun b xs q => ?_, fun b o x q => ?_, fun b ps q => ?_⟩, J.loc, J.cell, ?_, fun x c q => ?_, fun p hp => ?_, fun b o q => ?_, J.len⟩
  · rw [upd_ne (ne0 b o q hx)]; exact J.base.free b o q n hx
  · have z := J.base.tups b xs q
    rw [upd_ne (neH _ _ z)]; exact z
  · have z := J.base.frzs b o x q
    rw [upd_ne (neH _ _ z)]; exact z
  · obtain ⟨m, z⟩ := J.base.tbls b ps q
    exact ⟨m, by rw [upd_ne (neH _ _ z)]; exact z⟩
  · obtain ⟨m, ⟨o, _, _, ho, _⟩, _⟩ := I.loc
    rw [upd_ne (ne _ o ho)]; exact J.free
  · obtain ⟨v, o, ho, _⟩ := I.cell x c q
    rw [upd_ne (ne _ o ho)]; exact J.freeC x c q
  · obtain ⟨q1, q2, q3, q4, q5⟩ := J.pin p hp
    obtain ⟨r1, _⟩ := I.pin p hp
    exact ⟨q1, by rw [upd_ne (ne _ _ r1)]; exact q2, q3, q4, q5⟩
  · by_cases hb : b = e
    · subst hb
      rw [upd_same] at q; cases q
      refine ⟨⟨oe, he, hc⟩, ⟨oe, he⟩, fun h1 h2 p k => ?_⟩
      obtain ⟨o1, p1, p2⟩ := p
      exact ⟨o1, k o1 p1, p2⟩
    · rw [upd_ne hb] at q
      exact (J.hok b o q).stay (fun c v _ r => r) (fun c r => by rw [upd_ne (neH _ _ r)]; exact r) fun c xs r => by rw [upd_ne (neH _ _ r)]; exact r
/-- handlers: at the exception e of the class C -/
def PH (X : Cx) (hs : List ExceptHandler) (th : Addr → Addr → TS) : Prop :=
  ∀ (pins : List (Addr × Obj)) (s1 : Shared) (σ : St) (H' : Hp) (e C : Addr) (D : Ends), Landed X pins σ H' e C s1 → th e C D σ H' → wpAny (model X.prog X.w) X.A (handleBy (.ref e) X.env hs) (SP X pins D) X.xe s1
/-- no handler is reached -/
theorem ph_nil : PH X [] (fun _ _ _ _ _ => False) := fun _ _ _ _ _ _ _ _ h => h.elim
def hAs (K : PySem.W.Frag) (B : Addr) (i : Nat) (t : Addr → TS) (tr : Addr → Addr → TS) : Addr → Addr → TS := fun e C D σ H' => ∃ b, PySem.W.exmOne K (.ref C) (.ref B) = some b ∧
  if b = true then t e { nx := fun σ' H2 => D.nx (σ'.set i none) H2, rt := D.rt, bk := fun σ' H2 => D.bk (σ'.set i none) H2, ct := fun σ' H2 => D.ct (σ'.set i none) H2 } (σ.set i (some (.ref e))) (upd H' e (excO e C)) else tr e C D σ H'
theorem ph_as {x n : Str} {B : Addr} {i : Nat} {np pos : Pos} {b₀ : Stmt} {suite : List Stmt} {rest : List ExceptHandler} {t : Addr → TS} {tr : Addr → Addr → TS} (hst : X.stack = X.env :: X.outer) (hg : Gl X x) (hm : X.mg x = some (.ref B)) (hN : X.N.Nodup) (hi : X.N[i]? = some n)
    (hk : X.env.kindOf n = some .local) (hl : X.env.scope.names.lookup n = some .local) (hs : ∀ e, PSs (X.exc e) (b₀ :: suite) (t e)) (hr : PH X rest tr) (hd : (x == ("__debug__" : Str)) = false := by decide) :
    PH X (.ExceptHandler (some (.Name x np)) (some n) (b₀ :: suite) pos :: rest) (hAs X.K B i t tr) := by
  intro pins s1 σ H' e C D l h
  obtain ⟨b, hx, h⟩ := h
  have J := l.inv hst
  refine wpAny_handleBy_cons (codeAny_handlers_test (ld_glob (J.exc e) hg hm ?_ hd)) (fun z => nomatch z)
  refine PySem.W.exm_one J.kIn (My.clsAt_ty _ _ l.cls) hx _ _ _ _ (fun _ _ z => z) ?_
  cases b with
  | false => exact hr pins s1 σ H' e C D l (by simpa using h)
  | true =>
    rw [if_pos rfl] at h
    refine codeAny_handlers_suite_as (l.again fun s2 l2 => ?_)
    refine store_ok (l2.held hst) hN hi (.inl hl) (v := .ref e) rfl (fun s3 I3 => ?_) (.inr hl)
    refine wpAny_mono (hs e pins s3 _ _ _ (I3.exc e) h) (fun f s4 q => ?_) fun _ _ z => z.elim
    cases f with
    | next =>
      obtain ⟨σ', H2, I4, q⟩ := q
      exact unbind_ok (I4.unexc J.ok) hN hi hk fun s5 I5 => ⟨_, _, I5, q⟩
    | brk =>
      obtain ⟨σ', H2, I4, q⟩ := q
      exact unbind_ok (I4.unexc J.ok) hN hi hk fun s5 I5 => ⟨_, _, I5, q⟩
    | cont =>
      obtain ⟨σ', H2, I4, q⟩ := q
      exact unbind_ok (I4.unexc J.ok) hN hi hk fun s5 I5 => ⟨_, _, I5, q⟩
    | ret u =>
      obtain ⟨v, σ', H2, I4, r, q⟩ := q
      exact unbind_ok (I4.unexc J.ok) hN hi hk fun s5 I5 => ⟨v, _, _, I5, r, q⟩
def hNo (K : PySem.W.Frag) (B : Addr) (t : Addr → TS) (tr : Addr → Addr → TS) : Addr → Addr → TS := fun e C D σ H' => ∃ b, PySem.W.exmOne K (.ref C) (.ref B) = some b ∧
  if b = true then t e D σ (upd H' e (excO e C)) else tr e C D σ H'
theorem ph_no {x : Str} {B : Addr} {np pos : Pos} {b₀ : Stmt} {suite : List Stmt} {rest : List ExceptHandler} {t : Addr → TS} {tr : Addr → Addr → TS} (hst : X.stack = X.env :: X.outer) (hg : Gl X x) (hm : X.mg x = some (.ref B))
    (hs : ∀ e, PSs (X.exc e) (b₀ :: suite) (t e)) (hr : PH X rest tr) (hd : (x == ("__debug__" : Str)) = false := by decide) :
    PH X (.ExceptHandler (some (.Name x np)) none (b₀ :: suite) pos :: rest) (hNo X.K B t tr) := by
  intro pins s1 σ H' e C D l h
  obtain ⟨b, hx, h⟩ := h
  have J := l.inv hst
  refine wpAny_handleBy_cons (codeAny_handlers_test (ld_glob (J.exc e) hg hm ?_ hd)) (fun z => nomatch z)
  refine PySem.W.exm_one J.kIn (My.clsAt_ty _ _ l.cls) hx _ _ _ _ (fun _ _ z => z) ?_
  cases b with
  | false => exact hr pins s1 σ H' e C D l (by simpa using h)
  | true =>
    rw [if_pos rfl] at h
    refine codeAny_handlers_suite (l.again fun s2 l2 => ?_)
    have I2 := (l2.held hst).exc e
    refine wpAny_mono (hs e pins s2 _ _ _ I2 h) (fun f s4 q => ?_) fun _ _ z => z.elim
    cases f with
    | next => obtain ⟨σ', H2, I4, q⟩ := q; exact ⟨_, _, I4.unexc J.ok, q⟩
    | brk => obtain ⟨σ', H2, I4, q⟩ := q; exact ⟨_, _, I4.unexc J.ok, q⟩
    | cont => obtain ⟨σ', H2, I4, q⟩ := q; exact ⟨_, _, I4.unexc J.ok, q⟩
    | ret u => obtain ⟨v, σ', H2, I4, r, q⟩ := q; exact ⟨v, _, _, I4.unexc J.ok, r, q⟩
/-- a try's body: what a callee raises goes to the handlers, which stand in X; P: what is known at a raise (the frame's values, the class, the heap) -/
def caughtBy (X : Cx) (pins : List (Addr × Obj)) (R : Addr → St → Hp → Prop) : Value → Shared → Prop := fun ev s' =>
  ∃ (σ : St) (H : Hp) (s : Shared) (E : XK), Inv X pins σ H s ∧ CXe X.prog X.w X.base X.stack H s E ev s' ∧ ∀ C H', E (.ref C) none H' → R C σ H'
end
end L2

namespace L2
open PySem PySem.Spec PyProof.Rows
/-- what a try's body wants of exceptions: a class and a heap of R, the frame as it stood -/
def trX (X : Cx) (pins : List (Addr × Obj)) (σ₀ : St) (R : Addr → Hp → Prop) : Value → Shared → Prop := fun ev s' =>
  ∃ (H : Hp) (s : Shared) (E : XK), Inv X pins σ₀ H s ∧ CXe X.prog X.w X.base X.stack H s E ev s' ∧ ∀ C H', E (.ref C) none H' → R C H'
abbrev Cx.tr (X : Cx) (pins : List (Addr × Obj)) (σ₀ : St) (R : Addr → Hp → Prop) : Cx := { X with pn := X.pn ++ pins, xe := trX X pins σ₀ R }
def XE (R : Addr → Hp → Prop) : XK := fun c _ H' => ∃ C, c = .ref C ∧ R C H'
section
variable {X : Cx} {pins : List (Addr × Obj)} {σ σ₀ : St} {H H' : Hp} {s s' : Shared} {R : Addr → Hp → Prop}
theorem Cx.Ok.tr (ok : X.Ok) : (X.tr pins σ₀ R).Ok :=
  ⟨ok.mod, ok.kind, ok.glob, ok.blt, ok.above, ok.inj, ok.has, ok.cab, ok.hd, ok.frames, ok.stk, ok.exf, ok.bs, ok.bsz, ok.noex, ok.exfs, ok.funs, ok.frf⟩
theorem Inv.tr (I : Inv X pins σ H s) : Inv (X.tr pins σ₀ R) [] σ H s :=
  ⟨I.ok.tr, I.os, I.bare, I.base, I.loc, I.cell, I.free, I.freeC, fun p hp => I.pin p (by simpa using hp), I.hok, I.len⟩
theorem Inv.untr {ps : List (Addr × Obj)} (I : Inv (X.tr pins σ₀ R) ps σ H s) (ok : X.Ok) : Inv X pins σ H s :=
  ⟨ok, I.os, I.bare, I.base, I.loc, I.cell, I.free, I.freeC, fun p hp => I.pin p (List.mem_append_left _ hp), I.hok, I.len⟩
/-- a statement, an expression at a known frame -/
def PS1 (X : Cx) (σ₀ : St) (st : Stmt) (t : TS) : Prop :=
  ∀ (pins : List (Addr × Obj)) (s : Shared) (H : Hp) (D : Ends), Inv X pins σ₀ H s → t D σ₀ H → wpAny (model X.prog X.w) X.A (exec st X.env) (SP X pins D) X.xe s
def PE1 (X : Cx) (σ₀ : St) (e : Expr) (t : TE) : Prop :=
  ∀ (pins : List (Addr × Obj)) (s : Shared) (H : Hp) (Q : VK), Inv X pins σ₀ H s → t σ₀ H Q → wpAny (model X.prog X.w) X.A (eval e X.env) (EP X pins σ₀ Q) X.xe s
def Passes1 (CX : CXT) (X : Cx) (σ₀ : St) (E : XK) : Prop := ∀ (pins : List (Addr × Obj)) (H : Hp) (s : Shared) (e : Value) (s' : Shared), Inv X pins σ₀ H s → CX X.stack H s E e s' → X.xe e s'
theorem Passes.one {CX : CXT} {E : XK} (h : Passes CX X E) : Passes1 CX X σ₀ E := fun pins H s e s' I q => h pins σ₀ H s e s' I q
theorem pass_tr (ok : X.Ok) : Passes1 (CXe X.prog X.w X.base) (X.tr pins σ₀ R) σ₀ (XE R) := fun ps H s e s' I q => ⟨H, s, XE R, I.untr ok, q, fun C H' ⟨C', z, r⟩ => by cases z; exact r⟩
theorem ps1_set {i : Nat} {x : Str} {e : Expr} {te : TE} {pos pos' : Pos} (hN : X.N.Nodup) (hi : X.N[i]? = some x) (hx : Loc X.env.scope x) (he : PE1 X σ₀ e te) (hs : swapsWith e (some (.Name x pos')) pos.line X.env = pure false := by rfl)
    (hf : X.fn x = true ∨ X.env.scope.names.lookup x = some .local := by first | exact .inl rfl | exact .inr rfl | assumption) : PS1 X σ₀ (.Assign [.Name x pos'] e pos) (tAsg te (gName i)) := by
  intro pins s H D I h
  refine wpAny_Assign_Name (thn (he pins s H _ I h) fun v s1 ⟨y, H1, I1, r1, q1⟩ => ?_) hs
  exact store_ok I1 hN hi hx r1 (fun s2 I2 => ⟨_, H1, I2, q1⟩) hf
theorem run_fn1 {CX : CXT} {k : Nat} {f : Addr} {fd : FuncData} {ps : List Str} {sp : Sp} {dvs : List V} {ds : List Value} {E : XK} {Q : VK} {us : List Value} {vs : List V} (F : FnOk X.prog X.w X.K X.mg X.base CX k f fd ps sp) (hr : Room k X.A) (hb : Binds X.K fd ps ds) (hd : Vals dvs ds) (hx : Passes1 CX X σ₀ E)
    (I : Inv X pins σ₀ H s) (r : Vals vs us) (h : sp (vs ++ dvs) H Q E) : wpAny (model X.prog X.w) X.A (call (.ref f) us) (EP X pins σ₀ Q) X.xe s := by
  have r2 : Vals (vs ++ dvs) (us ++ ds) := r.append hd
  have hl : (us ++ ds).length = ps.length := by rw [← r2.length]; exact F.len _ _ _ _ h
  refine wpAny_call (codeAny_mono (F.run X.A X.stack s H ⟨us, []⟩ (us ++ ds) (vs ++ dvs) Q E hr I.env0 (hb s us I.kIn hl) r2 h) fun r s' hq => ?_)
  cases r with
  | error e => exact hx pins H s e s' I hq
  | ok fl =>
    cases fl with
    | ret u => exact I.after hq
    | next => exact False.elim hq
    | brk => exact False.elim hq
    | cont => exact False.elim hq
theorem pe1_call {CX : CXT} {k : Nat} {f : Addr} {fd : FuncData} {ps : List Str} {sp : Sp} {E : XK} {x : Str} {p pos : Pos} {e : Expr} {es : List Expr} {t : TA} (F : FnOk X.prog X.w X.K X.mg X.base CX k f fd ps sp) (hr : Room k X.A) (hg : Gl X x) (hm : X.mg x = some (.ref f)) (hk : PySem.W.keepIn X.K (.ref f) = true) (hb : Binds X.K fd ps []) (hx : Passes1 CX X σ₀ E)
    (ha : PA X (e :: es) t) (hdb : (x == ("__debug__" : Str)) = false := by decide) (he : starEach (e :: es) X.env = (false, eval e X.env) :: starEach es X.env := by rfl) (hpl : (backTo pos (starEach es X.env)).any (·.1) = false := by rfl) :
    PE1 X σ₀ (.Call (.Name x p) (e :: es) [] pos) (tCall sp [] E t) := by
  intro pins s H Q I h
  refine wpAny_Call_Name_kw (ld_glob I hg hm ?_ hdb)
  refine PySem.W.callWith_K (h₀ := X.base) I.ok.mod.kin hk (thn (ha pos pins s σ₀ H _ I h) fun us s1 ⟨vs, H1, I1, r, q⟩ => ⟨I1.kIn, ?_⟩) he hpl
  exact run_fn1 F hr hb .nil hx I1 r q
/-- o.m(e, ..) where o's class is one of several, all of whose m keep one promise -/
structure Disp (P : Program) (w : World) (K : PySem.W.Frag) (mg : Str → Option Value) (base : Heap) (CX : CXT) (k : Nat) (m : Str) (ps : List Str) (sp : Sp) (C : Addr) : Prop where
  cl : Cls K C
  to : ∃ (f : Addr) (fd : FuncData), Meth K C m f ∧ FnOk P w K mg base CX k f fd ps sp ∧ Binds K fd ps []
def tMethD (Ds : Addr → Prop) (m : Str) (sp : Sp) (E : XK) (ta : TE) (t : TA) : TE := fun σ H Q => ta σ H fun x H1 => ∃ a C dx fs, x = .ref a ∧ H1 a = some (.ins C dx fs) ∧ Ds C ∧ fs.lookup m = none ∧ t σ H1 fun vs H2 => sp (x :: vs) H2 Q E
theorem PE1.all {e : Expr} {t : TE} (h : ∀ σ₀, PE1 X σ₀ e t) : PE X e t := fun pins s σ H Q I q => h σ pins s H Q I q
/-- try: one statement -/
def tTry (t : (Addr → Hp → Prop) → TS) (th : Addr → Addr → TS) : TS := fun D σ H => ∃ R : Addr → Hp → Prop, t R D σ H ∧ ∀ e C H', H' e = none → R C H' → th e C D σ H'
theorem ps_try {st : Stmt} {h₀ : ExceptHandler} {hs : List ExceptHandler} {pos : Pos} {t : (Addr → Hp → Prop) → TS} {th : Addr → Addr → TS} (hst : X.stack = X.env :: X.outer) (hf : X.env.frame = some X.env.locals)
    (hb : ∀ pins σ₀ R, X.Ok → PS1 (X.tr pins σ₀ R) σ₀ st (t R)) (hh : PH X (h₀ :: hs) th) : PS X (.Try [st] (h₀ :: hs) [] [] pos) (tTry t th) := by
  intro pins s σ H D I h
  obtain ⟨R, h, k⟩ := h
  refine wpAny_Try_except (wpAny_execs_cons (wpAny_mono (hb pins σ R I.ok [] s H D I.tr h) (fun f s1 q => ?_) fun ev s1 q => ?_))
  · cases f with
    | next =>
      obtain ⟨σ', H2, I4, q⟩ := q
      exact wpAny_execs_nil (wpAny_execs_nil ⟨_, _, I4.untr I.ok, q⟩)
    | brk => obtain ⟨σ', H2, I4, q⟩ := q; exact ⟨_, _, I4.untr I.ok, q⟩
    | cont => obtain ⟨σ', H2, I4, q⟩ := q; exact ⟨_, _, I4.untr I.ok, q⟩
    | ret u => obtain ⟨v, σ', H2, I4, r, q⟩ := q; exact ⟨v, _, _, I4.untr I.ok, r, q⟩
  · obtain ⟨H1, s0, E, I1, c, z⟩ := q
    exact land I1 hst hf c fun e C H' s2 ee q l => (by subst ee; exact hh pins s2 σ H' e C D l (k e C H' l.free (z C H' q)))
/-- raise C(..) -/
theorem ps_raise {x : Str} {C : Addr} {bm : List Value} {B newId initId : String} {np cpos pos : Pos} {e₀ : Expr} {rest : List Expr} {ta : TA} {E : XK} (O : OwnCls x C bm newId X.mg X.base) (FB : ExcBaseFacts B newId initId bm) (hc : X.calm = true) (hg : Gl X x) (ht : Throws X E) (ha : PA X (e₀ :: rest) ta)
    (he : starEach (e₀ :: rest) X.env = (false, eval e₀ X.env) :: starEach rest X.env := by rfl) (hplain : (backTo cpos (starEach rest X.env)).any (·.1) = false := by rfl) (hd : (x == ("__debug__" : Str)) = false := by decide) :
    PS X (.Raise (some (.Call (.Name x np) (e₀ :: rest) [] cpos)) none pos) (fun _ σ H => ta σ H fun vs H1 => vs.length ≤ sizeLine ∧ E (.ref C) none H1) := by
  intro pins s σ H D I h
  obtain ⟨tl, N, nm, q, bs, hdct, sn, sub, ab, col, dd, k0, k1, k2, k3, k5, mN, hC, hN, hni, T⟩ := O.obj
  refine wpAny_Raise_call_subT (C := C) (nm := nm) (q := q) (N := N) (bs := bs) (bm := tl) (hdct := hdct) (sn := sn) (sub := sub) (ab := ab) (col := col) (dd := dd) (k0 := k0) (k1 := k1) (k2 := k2) (k3 := k3) (k5 := k5)
    FB (mN := mN) (T.hasType FB.hasBase) (I.ok.hd hc) (by rw [he]; show (false || (backTo cpos (starEach rest X.env)).any (·.1)) = false; rw [hplain]; rfl) hni (ld_glob I hg O.bound ⟨rfl, ?_⟩ hd)
  have h1 := ha cpos pins s σ H _ I h
  rw [he] at h1 ⊢
  refine Calls.evalArgs_plain (wpAny_mono h1 (fun vs s2 hq => ?_) fun _ _ z => z)
  obtain ⟨us, H1, I1, r, hl, q⟩ := hq
  exact ⟨rfl, by rw [← r.length]; exact hl, I1.bk _ _ hC, hN.keeps I1.bk, T.keeps I1.bk, fun h' e m => ht pins σ H1 s2 h' e C _ I1 m q⟩
end
end L2

namespace L2
open PySem PySem.Spec PyProof.Rows
/-- a dict of the module, its keys texts -/
def TopDict (w : World) (K : PySem.W.Frag) (a : Addr) : Prop := ∃ es n, K.lookup a = some ⟨.type "dict", none, .dict es n, #[]⟩ ∧ PySem.W.KeysLit w.params es.toList
section
variable {X : Cx} {a : Addr} {ke : Expr} {tk : TE} {p pos : Pos} {D : Str}
def tTop (K : PySem.W.Frag) (a : Addr) (tk : TE) : TE := fun σ H Q => tk σ H fun x H1 => ∃ (k : Str) (u : Value) (v : V), x = .str k ∧ PySem.W.nsIn K a k = some (some u) ∧ RelV v u ∧ Q v H1
theorem top_item {pins : List (Addr × Obj)} {σ : St} {H : Hp} {s : Shared} {x : Str} {t : Tok} {u : Value} {A : Around} {E : Value → Shared → Prop} {Q : Value → Shared → Prop} (I : Inv X pins σ H s) (T : TopDict X.w X.K a) (e : PySem.W.nsIn X.K a x = some (some u)) (h : Q u { s with toks := s.toks + 1 }) :
    wpAny (model X.prog X.w) A (getItem (.ref a) (.str x t)) Q E s := by
  obtain ⟨es, n, hl, hk⟩ := T
  exact wpAny_getItem_of (strKind_is X.prog X.w x t) (PySem.W.mapOf_K (prog := X.prog) I.kIn hl hk) (PySem.W.find_K hl e) h
theorem top_in {pins : List (Addr × Obj)} {σ : St} {H : Hp} {s : Shared} {x : Str} {t : Tok} {r : Option Value} {A : Around} {E : Value → Shared → Prop} {Q : Value → Shared → Prop} (I : Inv X pins σ H s) (T : TopDict X.w X.K a) (e : PySem.W.nsIn X.K a x = some r) (lo : (a == sysModules) = false) (h : Q (.bool r.isSome) { s with toks := s.toks + 1 }) :
    wpAny (model X.prog X.w) A (compareOp .In (.str x t) (.ref a)) Q E s := by
  obtain ⟨es, n, hl, hk⟩ := T
  exact wpAny_in_of (strKind_is X.prog X.w x t) lo (PySem.W.mapOf_K (prog := X.prog) I.kIn hl hk) (by rw [PySem.W.find_K hl e]; exact h)
/-- k in D -/
def rTopIn (w : World) (K : PySem.W.Frag) : R2 := fun x y H Q => ∃ (k : Str) (a : Addr) (r : Option Value), x = .str k ∧ y = .ref a ∧ TopDict w K a ∧ (a == sysModules) = false ∧ PySem.W.nsIn K a k = some r ∧ Q (.bl r.isSome) H
theorem op_in_top : OpR X (compareOp .In) (rTopIn X.w X.K) := by
  intro pins s σ H x y v u Q I rx ry h
  obtain ⟨k, a, r, rfl, rfl, T, lo, e, q⟩ := h
  obtain ⟨t, rfl⟩ := (show ∃ t, v = Value.str k t from rx)
  cases (show u = Value.ref a from ry)
  exact top_in I T e lo ⟨.bl r.isSome, H, I.tok _, rfl, q⟩
/-- f(e, ..) where f is any expression -/
def tCallV (P : Program) (w : World) (K : PySem.W.Frag) (mg : Str → Option Value) (base : Heap) (CX : CXT) (k : Nat) (E : XK) (tf : TE) (t : TA) : TE := fun σ H Q => tf σ H fun x H1 => ∃ (f : Addr) (fd : FuncData) (ps : List Str) (sp : Sp), x = .ref f ∧ FnOk P w K mg base CX k f fd ps sp ∧ PySem.W.keepIn K (.ref f) = true ∧ Binds K fd ps [] ∧ t σ H1 fun vs H2 => sp vs H2 Q E
theorem pe_callV {CX : CXT} {k : Nat} {E : XK} {func e : Expr} {es : List Expr} {tf : TE} {t : TA} (hf : PE X func tf) (hr : Room k X.A) (hx : Passes CX X E) (ha : PA X (e :: es) t)
    (he : starEach (e :: es) X.env = (false, eval e X.env) :: starEach es X.env := by rfl) (hpl : (backTo pos (starEach es X.env)).any (·.1) = false := by rfl)
    (hc : eval (.Call func (e :: es) [] pos) X.env = (do callWith pos (← eval func X.env) [] (backTo pos (starEach (e :: es) X.env)) (backToKw pos (keywordEach [] X.env))) := by rfl) :
    PE X (.Call func (e :: es) [] pos) (tCallV X.prog X.w X.K X.mg X.base CX k E tf t) := by
  intro pins s σ H Q I h
  refine Call_ (thn (hf pins s σ H _ I h) fun u s1 ⟨x, H1, I1, rx, f, fd, ps, sp, ex, F, hk, hb, q⟩ => ?_) hc
  subst ex
  obtain rfl : u = Value.ref f := rx
  refine PySem.W.callWith_K (h₀ := X.base) I.ok.mod.kin hk (thn (ha pos pins s1 σ H1 _ I1 q) fun us s2 ⟨vs, H2, I2, r, q2⟩ => ⟨I2.kIn, ?_⟩) he hpl
  exact run_fn (dvs := []) (ds := []) F hr hb .nil hx I2 r (by simpa using q2)
end
end L2

namespace L2
open PySem PySem.Spec PyProof.Rows
section
variable {X : Cx}
def rIxTop (w : World) (K : PySem.W.Frag) : R2 := fun x y H Q => ∃ (a : Addr) (k : Str) (u : Value) (v : V), x = .ref a ∧ y = .str k ∧ TopDict w K a ∧ PySem.W.nsIn K a k = some (some u) ∧ RelV v u ∧ Q v H
theorem ix_top : IxR X (rIxTop X.w X.K) := by
  intro value slice pins s σ H x y v u Q I rx ry h hs
  obtain ⟨a, k, u', z, rfl, rfl, T, e, r, q⟩ := h
  cases (show v = Value.ref a from rx)
  obtain ⟨t, rfl⟩ := (show ∃ t, u = Value.str k t from ry)
  have T' := T
  obtain ⟨es, n, hl, hk⟩ := T'
  exact tail_any (PySem.W.mapOf_K (prog := X.prog) I.kIn hl hk).typeIs slot_dict_getitem.lookup (top_item I T e ⟨z, H, I.tok _, r, q⟩) hs
/-- what isinstance asks of an exception's class -/
structure ExcCls (K : PySem.W.Frag) (C : Addr) : Prop where
  hg : PySem.W.findIn K (.ref C) "__getattribute__" = some (some (.builtin "BaseException.__getattribute__"))
  hgg : PySem.W.findIn K (.ref C) "__getattr__" = some none
  hsb : PySem.W.subIn K (.ref C) (.type "BaseException") = some true
  hd : PySem.W.hasDictIn K C = true
  ha : PySem.W.findIn K (.ref C) "__class__" = some (some (.builtin "object.__class__"))
  hn : PySem.W.specialIn K (.builtin "object.__class__") "__get__" = some (some (.builtin "getset_descriptor.__get__"))
  ht : PySem.W.takesIn K (.builtin "object.__class__") = some true
  hm : PySem.W.mroIn K C (.type "object") = some true
def TyX (K : PySem.W.Frag) (H : Hp) (x : V) (t : Value) : Prop := TyOf K H x t ∨ ∃ e C, x = .ref e ∧ H e = some (excO e C) ∧ t = .ref C ∧ ExcCls K C
def rIsi (K : PySem.W.Frag) : List V → Hp → VK → Prop := fun vs H Q => ∃ (x c : V) (cv t : Value) (b : Bool), vs = [x, c] ∧ RelV c cv ∧ (∀ u, RelV c u → u = cv) ∧ TyX K H x t ∧ PySem.W.kitOne K t cv = some b ∧ Q (.bl b) H
theorem call_isinst : CallR X (.builtin "isinstance") (rIsi X.K) := by
  intro pins s σ H xs us Q I r h
  obtain ⟨x, c, cv, t, b, rfl, rc, ic, ty, e, q⟩ := h
  obtain ⟨u, w', rfl, ru, rw'⟩ := vals2 r
  cases ic w' rw'
  rcases ty with ty | ⟨ea, C, rfl, he, rfl, ec⟩
  · exact isinst_ok I ru ty e fun tk => ⟨.bl b, H, I.tok _, rfl, q⟩
  · cases (show u = Value.ref ea from ru)
    obtain ⟨p, _⟩ := (show ObjOk X.prog X.w H s.heap ea (excO ea C) from I.hok ea _ he)
    exact PySem.W.kia_one (My.kitx_exc ec.hg ec.hgg ec.hsb ec.hd ec.ha ec.hn ec.ht ec.hm) I.kIn p e (fun z => nomatch z) fun tk => ⟨.bl b, H, I.tok _, rfl, q⟩
end
/-- exceptions of a callee that never come -/
theorem passF {P : Program} {w : World} {base : Heap} {X : Cx} : Passes (CXe P w base) X E0 := fun _ _ _ _ _ _ _ h => by
  obtain ⟨_, _, _, _, _, _, _, _, _, q⟩ := h
  exact q.elim
section
variable {P : Program} {w : World} {K : PySem.W.Frag} {mg : Str → Option Value} {base : Heap}
/-- a def whose body may raise -/
theorem Fun.okE {x qual : Str} {st : Stmt} {f : Addr} {fd : FuncData} {N ps : List Str} {k : Nat} {sp : Sp} (F : Fun K x qual st f fd) (S : FnScope N ps (defScope st)) (len : ∀ vs H Q E, sp vs H Q E → vs.length = ps.length)
    (hbody : ∀ (cdv : Value) (A : Around) (outer : List Env) (s : Shared) (H : Hp) (vs : List V) (Q : VK) (E : XK), Room k (A.deeper (envOfC qual (defScope st) s.heap.objs.size f cdv)) → sp vs H Q E →
      ∃ t, PSs (cxOf (CXe P w base) P w K mg base N qual (defScope st) f cdv A outer s H E) (defBody st) t ∧ t { nx := fun _ H' => Q .non H', rt := Q } (start N vs) H) : FnOk P w K mg base (CXe P w base) (k + 1) f fd ps sp := by
  obtain ⟨oc, od, kV, doc, pm, an, cdv, ct, osl, rfl, lk, hcd⟩ := F.ex
  exact fn_of lk hcd S len fun A outer s H vs Q E hr hsp => hbody cdv A outer s H vs Q E hr hsp
/-- a def of the module, as it stands behind the top -/
def DefIn (K : PySem.W.Frag) (mg : Str → Option Value) (x : Str) (st : Stmt) (ps : List Str) : Prop := ∃ (f : Addr) (fd : FuncData), mg x = some (.ref f) ∧ Fun K x x st f fd ∧ Binds K fd ps []
theorem defIn_mk {h : Heap} {x : Str} {st : Stmt} {ps : List Str} {f : Addr} {oc : Value} {od an : Option Addr} {osl : Array (Option Value)} {kV doc pm cdv ct : Value} (X : K.In h) (G : h.Ns mainGlobals mg)
    (a : PySem.W.nsIn K mainGlobals x = some (some (.ref f))) (l : K.lookup f = some ⟨oc, od, .func (PySem.W.fnOf x x (defArgs st) (defBody st) (defScope st) .none kV doc pm an cdv ct), osl⟩)
    (c : PySem.W.codeIn K cdv x = true) (k : PySem.W.keepIn K (.ref f) = true)
    (b : ∀ (kV doc pm : Value) (an : Option Addr) (cdv ct : Value) (us : List Value), us.length = ps.length → bindArgs (PySem.W.fnOf x x (defArgs st) (defBody st) (defScope st) .none kV doc pm an cdv ct) ⟨us, []⟩ = pure (ps.zip us)) : DefIn K mg x st ps :=
  ⟨f, _, PySem.W.mg_of X G a, fun_mk l c k, (fun_mk l c k).binds b⟩
/-- .. keeping its promise -/
def Ok (P : Program) (w : World) (K : PySem.W.Frag) (mg : Str → Option Value) (base : Heap) (CX : CXT) (k : Nat) (x : Str) (ps : List Str) (sp : Sp) : Prop :=
  ∃ (f : Addr) (fd : FuncData), mg x = some (.ref f) ∧ PySem.W.keepIn K (.ref f) = true ∧ Binds K fd ps [] ∧ FnOk P w K mg base CX k f fd ps sp
theorem Ok.mono {CX : CXT} {j k : Nat} {x : Str} {ps : List Str} {sp : Sp} (o : Ok P w K mg base CX j x ps sp) (h : j ≤ k) : Ok P w K mg base CX k x ps sp := by
  obtain ⟨f, fd, a, b, c, d⟩ := o
  exact ⟨f, fd, a, b, c, d.mono h⟩
end
/-- f(e, ..) by a def's promise -/
theorem pe_ok {X : Cx} {CX : CXT} {k : Nat} {x : Str} {ps : List Str} {sp : Sp} {E : XK} {p pos : Pos} {e : Expr} {es : List Expr} {t : TA} (o : Ok X.prog X.w X.K X.mg X.base CX k x ps sp) (hr : Room k X.A) (hg : Gl X x) (hx : Passes CX X E) (ha : PA X (e :: es) t)
    (hdb : (x == ("__debug__" : Str)) = false := by decide) (he : starEach (e :: es) X.env = (false, eval e X.env) :: starEach es X.env := by rfl) (hpl : (backTo pos (starEach es X.env)).any (·.1) = false := by rfl) :
    PE X (.Call (.Name x p) (e :: es) [] pos) (tCall sp [] E t) := by
  obtain ⟨f, fd, a, b, c, d⟩ := o
  exact pe_call d hr hg a b c .nil hx ha hdb he hpl
theorem pe1_ok {X : Cx} {σ₀ : St} {CX : CXT} {k : Nat} {x : Str} {ps : List Str} {sp : Sp} {E : XK} {p pos : Pos} {e : Expr} {es : List Expr} {t : TA} (o : Ok X.prog X.w X.K X.mg X.base CX k x ps sp) (hr : Room k X.A) (hg : Gl X x) (hx : Passes1 CX X σ₀ E) (ha : PA X (e :: es) t)
    (hdb : (x == ("__debug__" : Str)) = false := by decide) (he : starEach (e :: es) X.env = (false, eval e X.env) :: starEach es X.env := by rfl) (hpl : (backTo pos (starEach es X.env)).any (·.1) = false := by rfl) :
    PE1 X σ₀ (.Call (.Name x p) (e :: es) [] pos) (tCall sp [] E t) := by
  obtain ⟨f, fd, a, b, c, d⟩ := o
  exact pe1_call d hr hg a b c hx ha hdb he hpl
end L2

namespace L2
open PySem PySem.Spec PyProof.Rows
theorem ints_of : ∀ {ns : List Int} {us : List Value}, Vals (ns.map V.int) us → IntsAre us ns
  | [], _, .nil => .nil
  | n :: ns, _, .cons ⟨t, e⟩ r => by subst e; exact .cons n t (ints_of r)
section
variable {X : Cx}
def rEqI (K : PySem.W.Frag) : R2 := fun x y H Q => ∃ (p q : Addr) (ns ms : List Int), x = .ref p ∧ y = .ref q ∧ SqL K H p (ns.map V.int) ∧ SqL K H q (ms.map V.int) ∧ Q (.bl (decide (ns = ms))) H
theorem op_fdivB : OpR X (binaryOp .FloorDiv) (rI (fun _ j => j ≠ 0 ∧ -18446744073709551616 < j ∧ j < 18446744073709551616) fun i j => .int (i.fdiv j)) := opI fun i j _ _ _ _ _ hc q => floordiv_int hc.1 q (.inl (PyProof.noPylong_of_log2 (by
  have h64 : j.natAbs < 2 ^ 65 := by omega
  have := (Nat.log2_lt (by omega : j.natAbs ≠ 0)).mpr h64
  omega)))
end
/-- one int in; two ints in -/
def sp1 (g : Int → V) : Sp := fun vs H Q _ => ∃ n, vs = [.int n] ∧ Q (g n) H
def sp2 (C : Int → Int → Prop) (g : Int → Int → Int) : Sp := fun vs H Q _ => ∃ a b, vs = [.int a, .int b] ∧ C a b ∧ Q (.int (g a b)) H
theorem len1 {g : Int → V} : ∀ vs H Q E, sp1 g vs H Q E → vs.length = 1 := fun vs H Q E ⟨n, e, _⟩ => by rw [e]; rfl
theorem len2 {C : Int → Int → Prop} {g : Int → Int → Int} : ∀ vs H Q E, sp2 C g vs H Q E → vs.length = 2 := fun vs H Q E ⟨a, b, e, _⟩ => by rw [e]; rfl
end L2
namespace L2
open PySem PySem.Spec PyProof.Rows
theorem pe_gint {X : Cx} {x : Str} {i : Int} {t : Tok} {pos : Pos} (hm : X.mg x = some (.int i t)) (hg : Gl X x := by rfl) (hd : (x == ("__debug__" : Str)) = false := by decide) : PE X (.Name x pos) (tC (.int i)) := pe_glob hg hm (v := .int i) ⟨_, rfl⟩ hd
theorem pe_gref {X : Cx} {x : Str} {a : Addr} {pos : Pos} (hm : X.mg x = some (.ref a)) (hg : Gl X x := by rfl) (hd : (x == ("__debug__" : Str)) = false := by decide) : PE X (.Name x pos) (tC (.ref a)) := pe_glob hg hm (v := .ref a) rfl hd
theorem pe_bty {X : Cx} {x : Str} {n : String} {pos : Pos} (hm : X.mg x = none) (hv : bootBuiltins x = some (.type n)) (hg : Gl X x := by rfl) (hn : x ≠ "__name__" := by decide) (hd : (x == ("__debug__" : Str)) = false := by decide) : PE X (.Name x pos) (tC (.ty n)) := pe_bltn hg hm hv (v := .ty n) rfl hn hd
end L2

namespace L2
open PySem PySem.Spec PyProof.Rows
/-- the block of a comprehension in X: entered at s3, its iterator's records at fp -/
abbrev Cx.comp (X : Cx) (scope : Scope) (cl : List (Str × Addr)) (NY : List Str) (s3 : Shared) (H3 : Hp) (fp : List Addr) : Cx :=
  { X with N := NY, s₀ := s3, H₀ := H3, env := compEnvC scope cl s3.heap.objs.size X.env, outer := X.stack, ex := fp, fn := fun _ => false, pn := [], xe := fun _ _ => False }
/-- what the block may see of X's names -/
structure Sees (X : Cx) (scope : Scope) (cl : List (Str × Addr)) : Prop where
  kind : scope.kind = .function
  clos : closureFor scope X.env = pure cl
  nocell : ∀ y ∈ scope.names, y.2 ≠ .cell
  names : ∀ y ∈ scope.names, y.2 = .local → scope.names.lookup y.1 = some .local
  sub : ∀ x c, cl.lookup x = some c → X.env.cells.lookup x = some c
  has : ∀ x, ((compEnvC scope cl 0 X.env).kindOf x = some .cell ∨ (compEnvC scope cl 0 X.env).kindOf x = some .free) → ∃ c, cl.lookup x = some c
section
variable {X : Cx} {pins : List (Addr × Obj)} {σ : St} {H3 : Hp} {s3 : Shared} {scope : Scope} {cl : List (Str × Addr)} {NY : List Str} {fp : List Addr}
theorem comp_ok (I : Inv X pins σ H3 s3) (S : Sees X scope cl) (hfp : ∀ b ∈ fp, FpOk X pins H3 b) (hob : ∀ b ∈ fp, ∃ o, s3.heap.get? b = some o) : (X.comp scope cl NY s3 H3 fp).Ok where
  mod := I.ok.mod
  kind := S.kind
  glob := I.ok.glob
  blt := I.ok.blt
  above := Nat.le_refl _
  inj := fun x y c a b => I.ok.inj x y c (S.sub _ _ a) (S.sub _ _ b)
  has := fun x h => S.has x h
  cab := fun _ _ h => nomatch h
  hd := I.ok.hd
  frames := I.ok.frames
  stk := .inl rfl
  exf := fun b hb => ⟨fun z => by
    obtain ⟨o, q⟩ := hob b hb
    exact absurd (Heap.lt_size q) (by rw [z]; exact Nat.lt_irrefl _), fun x c q => (hfp b hb).2.2.2.2.1 x c (S.sub _ _ q)⟩
  bs := I.bs
  bsz := Nat.le_trans I.ok.bsz I.sz
  noex := fun b o q hb => by
    rcases (hfp b hb).2.2.2.1 with z | z
    · exact I.ok.noex b o q z
    · exact absurd (Nat.lt_of_lt_of_le (Heap.lt_size q) (Nat.le_trans I.ok.bsz z)) (Nat.lt_irrefl _)
  exfs := fun b hb z => by
    rcases List.mem_cons.mp (I.stkSub b z) with y | y
    · exact (hfp b hb).2.1 y
    · exact (hfp b hb).2.2.1 y
  funs := I.stack
  frf := I.stkFree
theorem comp_inv {h1 : Heap} {t : Nat} {σY : St} (I : Inv X pins σ H3 s3) (S : Sees X scope cl) (hfp : ∀ b ∈ fp, FpOk X pins H3 b) (hob : ∀ b ∈ fp, ∃ o, s3.heap.get? b = some o)
    (hn : h1.Ns s3.heap.objs.size fun _ => none) (hk : ∀ b o, s3.heap.get? b = some o → h1.get? b = some o) (hl : σY.length = NY.length)
    (hσ : ∀ (i : Nat) (x : Str) (v : V), NY[i]? = some x → σY[i]? = some (some v) → ∃ c u, (((compEnvC scope cl 0 X.env).kindOf x = some .cell ∨ (compEnvC scope cl 0 X.env).kindOf x = some .free)) ∧ cl.lookup x = some c ∧ RelV v u ∧ s3.heap.IsCell c (some u)) :
    Inv (X.comp scope cl NY s3 H3 fp) [] σY H3 { s3 with heap := h1, toks := t } where
  ok := comp_ok I S hfp hob
  os := rfl
  bare := I.bare
  base := Un.kept hk
  loc := ⟨_, hn, fun i x v e1 e2 _ => by
    obtain ⟨c, u, k, q, r, z⟩ := hσ i x v e1 e2
    obtain ⟨o, z1, z2⟩ := z
    exact ⟨u, r, .inr ⟨k, c, q, o, hk _ _ z1, z2⟩⟩⟩
  cell := fun x c q => by
    obtain ⟨v, o, z1, z2⟩ := I.cell x c (S.sub _ _ q)
    exact ⟨v, o, hk _ _ z1, z2⟩
  free := I.hok.fresh (Nat.le_refl _)
  freeC := fun x c q => I.freeC x c (S.sub _ _ q)
  pin := fun p hp => absurd hp (by simp)
  hok := I.hok.kept hk
  len := hl
/-- behind the block -/
theorem comp_back {Y : List (Addr × Obj)} {σY : St} {H' : Hp} {s' : Shared} {h' : Heap} (I : Inv X pins σ H3 s3) (hfp : ∀ b ∈ fp, FpOk X pins H3 b) (J : Inv (X.comp scope cl NY s3 H3 fp) Y σY H' s') (hs : Heap.SameBut s3.heap.objs.size s'.heap h') :
    Inv X pins σ H' { s' with heap := h' } := by
  have ne : ∀ b o, s3.heap.get? b = some o → b ≠ s3.heap.objs.size := fun b o q => Nat.ne_of_lt (Heap.lt_size q)
  have B := J.base
  refine I.call' (s' := { s' with heap := h' }) (ch := fp) J.os ⟨fun b o q n hb hx => ?_, fun b o q n hb hx => ?_, B.free, fun b o q hx => ?_, B.tups, B.frzs, B.tbls⟩ (fun b o q => ?_) J.bare fun b hb => ?_
  · exact (hs.2 b (ne b o q)).trans (B.keep b o q n hb hx)
  · obtain ⟨sl, z⟩ := B.slot b o q n hb hx
    exact ⟨sl, (hs.2 b (ne b o q)).trans z⟩
  · obtain ⟨o', z⟩ := B.there b o q hx
    exact ⟨o', (hs.2 b (ne b o q)).trans z⟩
  · have hf : H' s3.heap.objs.size = none := J.free
    refine (J.hok b o q).stay (fun c v hc r => (hs.2 c ?_).trans r) (fun _ z => z) fun _ _ z => z
    rintro rfl
    rcases hc with z | z
    · rw [← z, hf] at q; cases q
    · rw [hf] at z; cases z
  · obtain ⟨_, f2, _, f4, f5, f6⟩ := hfp b hb
    exact ⟨f4, f2, f5, f6⟩
end
end L2

namespace L2
open PySem PySem.Spec PyProof.Rows
section
variable {prog : Program} {w : World} {A : Around} {R : Result → Shared → Prop} {s : Shared}
end
/-- the walk of a comprehension into the list at D -/
def CompW (J : It) (g : TG) (te : TE) (σY : St) (H1 : Hp) (D : Addr) (Q : VK) : Prop := ∃ W : Nat → Nat → St → Hp → Prop, (∃ m, W 0 m σY H1) ∧ ∀ i m σ' H', W i m σ' H' →
  (J.stop i H' ∧ Q (.ref D) H') ∨ (J.go i H' ∧ ∃ N : St → Hp → Prop, (∀ σ2 H2, N σ2 H2 → ∃ m', m' < m ∧ W (i + 1) m' σ2 H2) ∧
    ∀ x H2, J.yld i H' x H2 → g x σ' H2 fun σ3 H3 => te σ3 H3 fun v H4 => ∃ xs, H4 D = some (.lst xs) ∧ xs.length < sizeLine ∧ N σ3 (upd H4 D (.lst (xs ++ [v]))))
/-- [e for x in it]: σY the block's names at its entry -/
def tComp (wi : TI) (g : TG) (te : TE) (σ0 : St → Hp → St → Prop) : TE := fun σ H Q => wi σ H fun J H1 => ∃ σY, σ0 σ H1 σY ∧ ∀ D, H1 D = none → CompW J g te σY (upd H1 D (.lst [])) D Q
section
variable {X : Cx} {tg : Expr}
/-- behind the walk: the list at D, the block's names at C -/
structure CompEnd (X : Cx) (pins : List (Addr × Obj)) (σ : St) (H5 : Hp) (s6 : Shared) (C : Addr) : Prop where
  ns : ∃ m, s6.heap.Ns C m
  hn : H5 C = none
  hL : C ≠ X.env.locals
  h1 : X.s₀.heap.objs.size ≤ C
  h2 : ∀ x c, X.env.cells.lookup x = some c → c ≠ C
  h3 : ∀ p ∈ X.pn ++ pins, p.1 ≠ C
  inv : ∀ h', Heap.SameBut C s6.heap h' → Inv X pins σ H5 { s6 with heap := h' }
end
end L2

namespace L2
open PySem PySem.Spec PyProof.Rows
/-- a comprehension over a list that stays -/
theorem comp_list {K : PySem.W.Frag} {a D : Addr} {xs : List V} {g : TG} {te : TE} {σY : St} {H1 : Hp} {Q : VK} (Pv : Nat → St → Hp → Prop) (h0 : Pv 0 σY H1) (hl : ∀ i σ H, i ≤ xs.length → Pv i σ H → SqL K H a xs)
    (hs : ∀ i x σ H, xs[i]? = some x → Pv i σ H → g x σ H fun σ3 H3 => te σ3 H3 fun v H4 => ∃ ys, H4 D = some (.lst ys) ∧ ys.length < sizeLine ∧ Pv (i + 1) σ3 (upd H4 D (.lst (ys ++ [v])))) (hd : ∀ σ H, Pv xs.length σ H → Q (.ref D) H) :
    CompW (Itl K a) g te σY H1 D Q := by
  refine ⟨fun i m σ H => m = xs.length - i ∧ i ≤ xs.length ∧ Pv i σ H, ⟨xs.length, by simp, Nat.zero_le _, h0⟩, ?_⟩
  rintro i m σ H ⟨rfl, hi, p⟩
  have q := hl i σ H hi p
  by_cases hlt : i < xs.length
  · refine .inr ⟨⟨xs, xs[i], q, by simp [hlt]⟩, Pv (i + 1), fun σ' H' p' => ⟨xs.length - (i + 1), by omega, rfl, hlt, p'⟩, fun x H' y => ?_⟩
    obtain ⟨e, y⟩ := y
    subst e
    exact hs i x σ _ (y xs q) p
  · have e : i = xs.length := by omega
    subst e
    exact .inl ⟨⟨xs, q, Nat.le_refl _⟩, hd σ H p⟩
end L2

namespace L2
open PySem PySem.Spec PyProof.Rows
/-- the cells that a block takes along -/
def clGo (env : Env) : List (Str × NameKind) → List (Str × Addr) → List (Str × Addr)
  | [], cs => cs
  | y :: r, cs => clGo env r (if y.2 == .free then (y.1, (env.cells.lookup y.1).getD 0) :: cs else cs)
abbrev clOf (env : Env) (scope : Scope) : List (Str × Addr) := clGo env scope.names []
theorem closure_of {scope : Scope} {env : Env} (h : ∀ y ∈ scope.names, y.2 = .free → ∃ c, env.cells.lookup y.1 = some c) : closureFor scope env = pure (clOf env scope) := by
  rw [closureFor.eq_1]
  suffices q : ∀ (names : List (Str × NameKind)) (cs : List (Str × Addr)), (∀ y ∈ names, y.2 = .free → ∃ c, env.cells.lookup y.1 = some c) →
      (do
        let s ← forIn names cs fun x __s =>
          have cs := __s
          match x with
          | (name, kind) =>
            if (kind == NameKind.free) = true then do
              let l ← cellOf env name
              have cs : List (Str × Addr) := (name, l) :: cs
              pure (ForInStep.yield cs)
            else pure (ForInStep.yield cs)
        pure s : Sem (List (Str × Addr))) = pure (clGo env names cs) from (congrArg (fun (m : Sem (List (Str × Addr))) => m >>= fun s => (pure s : Sem (List (Str × Addr)))) (q scope.names [] h)).trans rfl
  intro names
  induction names with
  | nil => intro cs _; rfl
  | cons y r ih =>
    intro cs h
    obtain ⟨n, k⟩ := y
    have hr := fun y hy => h y (List.mem_cons_of_mem _ hy)
    rw [List.forIn_cons]
    show _ = pure (clGo env r (if k == .free then (n, (env.cells.lookup n).getD 0) :: cs else cs))
    by_cases e : k = .free
    · subst e
      obtain ⟨c, hc⟩ := h (n, .free) List.mem_cons_self rfl
      have e1 : cellOf env n = pure c := by unfold cellOf; rw [show env.cells.lookup n = some c from hc]
      simp only [e1, show env.cells.lookup n = some c from hc, Option.getD_some, beq_self_eq_true, if_true]
      exact ih _ hr
    · have e0 : (k == NameKind.free) = false := by simp [e]
      simp only [e0, Bool.false_eq_true, if_false]
      exact ih _ hr
theorem clGo_sub {env : Env} {x : Str} {c : Addr} : ∀ {names : List (Str × NameKind)} {cs : List (Str × Addr)}, (∀ y ∈ names, y.2 = .free → ∃ c, env.cells.lookup y.1 = some c) → (∀ x c, cs.lookup x = some c → env.cells.lookup x = some c) → (clGo env names cs).lookup x = some c → env.cells.lookup x = some c
  | [], cs, _, hc, h => hc _ _ h
  | (n, k) :: r, cs, hn, hc, h => by
    refine clGo_sub (fun y hy => hn y (List.mem_cons_of_mem _ hy)) (fun x c q => ?_) h
    by_cases e : k = .free
    · subst e
      obtain ⟨c', hc'⟩ := hn (n, .free) List.mem_cons_self rfl
      simp only [beq_self_eq_true, if_true, show env.cells.lookup n = some c' from hc', Option.getD_some, List.lookup_cons] at q
      by_cases z : x = n
      · subst z; simp at q; rw [← q]; exact hc'
      · have z' : (x == n) = false := by simp [z]
        rw [z'] at q
        exact hc _ _ q
    · have e0 : (k == NameKind.free) = false := by simp [e]
      rw [e0] at q
      exact hc _ _ q
theorem clGo_keep {env : Env} {x : Str} : ∀ {names : List (Str × NameKind)} {cs : List (Str × Addr)}, (∃ c, cs.lookup x = some c) → ∃ c, (clGo env names cs).lookup x = some c
  | [], _, h => h
  | (n, k) :: r, cs, h => by
    refine clGo_keep (names := r) ?_
    by_cases e : (k == NameKind.free) = true
    · simp only [e, if_true, List.lookup_cons]
      cases hx : x == n with
      | true => exact ⟨_, rfl⟩
      | false => exact h
    · simp only [e, if_false]; exact h
theorem clGo_has {env : Env} {x : Str} : ∀ {names : List (Str × NameKind)} {cs : List (Str × Addr)}, (x, NameKind.free) ∈ names → ∃ c, (clGo env names cs).lookup x = some c
  | (n, k) :: r, cs, h => by
    rcases List.mem_cons.mp h with e | e
    · cases e
      refine clGo_keep (names := r) ⟨(env.cells.lookup x).getD 0, ?_⟩
      simp
    · show ∃ c, (clGo env r _).lookup x = some c
      exact clGo_has e
/-- what a block asks of its own names and of those around it -/
def seesOk (X : Cx) (scope : Scope) : Bool :=
  (match scope.kind with | .function => true | _ => false) && scope.names.all fun y => match y.2 with
    | .cell => false
    | .free => (match X.env.kindOf y.1 with | some .cell => true | some .free => true | _ => false)
    | .local => (match scope.names.lookup y.1 with | some .local => true | _ => false)
    | _ => true
theorem sees_of {X : Cx} {scope : Scope} (ok : X.Ok) (h : seesOk X scope = true) : Sees X scope (clOf X.env scope) := by
  unfold seesOk at h
  rw [Bool.and_eq_true, List.all_eq_true] at h
  obtain ⟨hk, hn⟩ := h
  have fr : ∀ y ∈ scope.names, y.2 = .free → ∃ c, X.env.cells.lookup y.1 = some c := fun y hy e => by
    have q := hn y hy
    rw [e] at q
    refine ok.has y.1 ?_
    revert q
    dsimp only
    split
    · rename_i z; intro _; exact .inl z
    · rename_i z; intro _; exact .inr z
    · intro q; cases q
  refine ⟨?_, closure_of fr, fun y hy e => ?_, fun y hy e => ?_, fun x c q => clGo_sub fr (fun _ _ z => by cases z) q, fun x q => ?_⟩
  · revert hk
    cases scope.kind <;> simp
  · have q := hn y hy
    rw [e] at q
    exact Bool.false_ne_true q
  · have q := hn y hy
    rw [e] at q
    revert q
    dsimp only
    split
    · rename_i z; intro _; exact z
    · intro q; cases q
  · have key : ∀ k, (compEnvC scope (clOf X.env scope) 0 X.env).kindOf x = some k → (k = .cell ∨ k = .free) → (x, NameKind.free) ∈ scope.names := by
      intro k hk' hkk
      have q : ((scope.names.map fun y => match y with | (n, k) => if (k == NameKind.free && X.env.scope.kind == ScopeKind.function && X.env.kindOf n == some NameKind.cell) = true then (n, NameKind.cell) else (n, k))).lookup x = some k := hk'
      obtain ⟨n, k', e1, e2⟩ : ∃ n k', (n, k') ∈ scope.names ∧ (match (n, k') with | (n, k) => if (k == NameKind.free && X.env.scope.kind == ScopeKind.function && X.env.kindOf n == some NameKind.cell) = true then (n, NameKind.cell) else (n, k)) = (x, k) := by
        have m : (x, k) ∈ (scope.names.map fun y => match y with | (n, k) => if (k == NameKind.free && X.env.scope.kind == ScopeKind.function && X.env.kindOf n == some NameKind.cell) = true then (n, NameKind.cell) else (n, k)) := by
          revert q
          generalize (scope.names.map fun y => match y with | (n, k) => if (k == NameKind.free && X.env.scope.kind == ScopeKind.function && X.env.kindOf n == some NameKind.cell) = true then (n, NameKind.cell) else (n, k)) = l
          induction l with
          | nil => intro q; cases q
          | cons a l ih =>
            intro q
            obtain ⟨a1, a2⟩ := a
            rw [List.lookup_cons] at q
            cases hx : x == a1 with
            | true => rw [hx] at q; cases q; have := beq_iff_eq.mp hx; subst this; exact List.mem_cons_self
            | false => rw [hx] at q; exact List.mem_cons_of_mem _ (ih q)
        obtain ⟨⟨n, k'⟩, h1, h2⟩ := List.mem_map.mp m
        exact ⟨n, k', h1, h2⟩
      dsimp only at e2
      split at e2
      · rename_i z
        cases e2
        simp only [Bool.and_eq_true, beq_iff_eq] at z
        rw [z.1.1] at e1
        exact e1
      · cases e2
        rcases hkk with rfl | rfl
        · have z := hn _ e1
          exact absurd z Bool.false_ne_true
        · exact e1
    rcases q with q | q
    · exact clGo_has (key _ q (.inl rfl))
    · exact clGo_has (key _ q (.inr rfl))
/-- the slots of the block that stand for names around it -/
def capOk (X : Cx) (scope : Scope) : List Str → List (Option Nat) → Bool
  | [], [] => true
  | _ :: r, none :: c => capOk X scope r c
  | x :: r, some j :: c => (match X.N[j]? with | some y => x == y | none => false) && (match (compEnvC scope (clOf X.env scope) 0 X.env).kindOf x with | some .cell => true | some .free => true | _ => false)
      && (match X.env.kindOf x with | some .cell => true | some .free => true | _ => false) && capOk X scope r c
  | _, _ => false
def capt (cap : List (Option Nat)) (σ : St) : St := cap.map fun o => o.bind fun j => (σ[j]?).join
theorem capt_ok {X : Cx} {scope : Scope} {pins : List (Addr × Obj)} {σ : St} {H : Hp} {s : Shared} (I : Inv X pins σ H s) (S : Sees X scope (clOf X.env scope)) : ∀ {NY : List Str} {cap : List (Option Nat)}, capOk X scope NY cap = true → (capt cap σ).length = NY.length ∧ ∀ (i : Nat) (x : Str) (v : V), NY[i]? = some x → (capt cap σ)[i]? = some (some v) →
      ∃ c u, (((compEnvC scope (clOf X.env scope) 0 X.env).kindOf x = some .cell ∨ (compEnvC scope (clOf X.env scope) 0 X.env).kindOf x = some .free)) ∧ (clOf X.env scope).lookup x = some c ∧ RelV v u ∧ s.heap.IsCell c (some u)
  | [], [], _ => ⟨rfl, fun i x v e _ => by cases e⟩
  | [], _ :: _, h => by cases h
  | y :: r, [], h => by cases h
  | y :: r, none :: c, h => by
    obtain ⟨l, q⟩ := capt_ok I S (NY := r) (cap := c) h
    refine ⟨by rw [List.length_cons, ← l]; rfl, fun i x v e1 e2 => ?_⟩
    cases i with
    | zero => cases e2
    | succ i => exact q i x v e1 e2
  | y :: r, some j :: c, h => by
    unfold capOk at h
    rw [Bool.and_eq_true, Bool.and_eq_true, Bool.and_eq_true] at h
    obtain ⟨⟨⟨h1, h2⟩, h3⟩, h4⟩ := h
    obtain ⟨l, q⟩ := capt_ok I S (NY := r) (cap := c) h4
    refine ⟨by rw [List.length_cons, ← l]; rfl, fun i x v e1 e2 => ?_⟩
    cases i with
    | succ i => exact q i x v e1 e2
    | zero =>
      have ey : y = x := Option.some.inj e1
      subst ey
      have ev : (σ[j]?).join = some v := Option.some.inj e2
      have hσ : σ[j]? = some (some v) := by
        cases z : σ[j]? with
        | none => rw [z] at ev; cases ev
        | some o => rw [z] at ev; rw [show o = some v from ev]
      have hN : X.N[j]? = some y := by
        cases z : X.N[j]? with
        | none => rw [z] at h1; cases h1
        | some y' => rw [z] at h1; rw [beq_iff_eq.mp h1]
      have hK : (compEnvC scope (clOf X.env scope) 0 X.env).kindOf y = some .cell ∨ (compEnvC scope (clOf X.env scope) 0 X.env).kindOf y = some .free := by
        revert h2
        split
        · rename_i z; intro _; exact .inl z
        · rename_i z; intro _; exact .inr z
        · intro q; cases q
      have hV : X.env.kindOf y = some .cell ∨ X.env.kindOf y = some .free := by
        revert h3
        split
        · rename_i z; intro _; exact .inl z
        · rename_i z; intro _; exact .inr z
        · intro q; cases q
      obtain ⟨c', hc'⟩ := S.has y hK
      obtain ⟨m, _, hl⟩ := I.loc
      obtain ⟨u, ru, lk⟩ := hl j y v hN hσ (.inr hV)
      refine ⟨c', u, hK, hc', ru, ?_⟩
      rcases lk with ⟨k, _⟩ | ⟨_, c2, e3, e4⟩
      · have k' : X.env.kindOf y = some .local := k
        rcases hV with z | z <;> rw [z] at k' <;> cases k'
      · have e5 := S.sub _ _ hc'
        rw [e3] at e5
        cases e5
        exact e4
abbrev tCompC (wi : TI) (g : TG) (te : TE) (cap : List (Option Nat)) : TE := tComp wi g te fun σ _ σY => σY = capt cap σ
section
variable {X : Cx} {tg : Expr}
end
end L2

namespace L2
open PySem PySem.Spec PyProof.Rows
section
variable {X : Cx}
def rIsB (f : Bool → Bool → Bool) : R2 := fun x y H Q => ∃ a b, x = .bl a ∧ y = .bl b ∧ Q (.bl (f a b)) H
/-- the rules of lists with the frame named (for blocks within) -/
def rLenS (K : PySem.W.Frag) : List V → Hp → VK → Prop := fun xs H Q => ∃ p ys, xs = [.ref p] ∧ (SqL K H p ys ∨ SqT K H p ys) ∧ Q (.int ys.length) H
theorem ix_listK {K : PySem.W.Frag} (e : X.K = K) : IxR X (rIxL K) := by subst e; exact ix_list
end
/-- items of a list of ints by place -/
theorem at_int {ns : List Int} {j : Int} (i : Nat) (h : i < ns.length) (e : j = i) : atI (ns.map V.int) j = some (.int (ns.getD i 0)) := by
  subst e
  refine atI_nat ?_
  rw [List.getElem?_map, List.getElem?_eq_getElem h]
  simp [List.getD, h]
theorem getD_mem {ns : List Int} {i : Nat} (h : i < ns.length) : ns.getD i 0 ∈ ns := by
  rw [List.getD_eq_getElem?_getD, List.getElem?_eq_getElem h]
  exact List.getElem_mem h
theorem map_int_at {ns : List Int} {i : Nat} {x : V} (h : (ns.map V.int)[i]? = some x) : i < ns.length ∧ x = .int (ns.getD i 0) := by
  rw [List.getElem?_map] at h
  cases e : ns[i]? with
  | none => rw [e] at h; cases h
  | some n =>
    rw [e] at h
    refine ⟨(List.getElem?_eq_some_iff.mp e).1, ?_⟩
    rw [List.getD_eq_getElem?_getD, e]
    exact (Option.some.inj h).symm
end L2

namespace L2
open PySem PySem.Spec PyProof.Rows
section
variable {X : Cx} {pins : List (Addr × Obj)} {σ : St} {H : Hp} {s : Shared}
/-- all but the names' own record stays, and that tells the same -/
theorem Inv.keptL {h' : Heap} {t' : Nat} (I : Inv X pins σ H s) {m : Str → Option Value} (hl : ∀ (i : Nat) (x : Str) (v : V), X.N[i]? = some x → σ[i]? = some (some v) → Vis X.env.scope x → ∃ u, RelV v u ∧ Look X.env s.heap m x u)
    (k : ∀ b o, b ≠ X.env.locals → s.heap.get? b = some o → h'.get? b = some o) (hn : h'.Ns X.env.locals m) : Inv X pins σ H { s with heap := h', toks := t' } := by
  have B := I.base
  have ne0 : ∀ b o, X.s₀.heap.get? b = some o → b ≠ X.env.locals := fun b o q z => by
    have h1 : b < X.s₀.heap.objs.size := Heap.lt_size q
    have h2 : X.s₀.heap.objs.size ≤ X.env.locals := I.ok.above
    rw [z] at h1
    exact absurd (Nat.lt_of_lt_of_le h1 h2) (Nat.lt_irrefl _)
  refine ⟨I.ok, I.os, I.bare, ⟨fun b o q n hb hx => ?_, fun b o q n hb hx => ?_, B.free, fun b o q hx => ?_, B.tups, B.frzs, B.tbls⟩, ⟨m, hn, fun i x v e1 e2 vs => ?_⟩, fun x c q => ?_, I.free, I.freeC, fun p hp => ?_, fun b o q => ?_, I.len⟩
  · exact k _ _ (ne0 _ _ q) (B.keep b o q n hb hx)
  · obtain ⟨sl, z⟩ := B.slot b o q n hb hx
    exact ⟨sl, k _ _ (ne0 _ _ q) z⟩
  · obtain ⟨o', z⟩ := B.there b o q hx
    exact ⟨o', k _ _ (ne0 _ _ q) z⟩
  · obtain ⟨u, r, lk⟩ := hl i x v e1 e2 vs
    refine ⟨u, r, ?_⟩
    rcases lk with z | ⟨z1, c, z2, o, z3, z4⟩
    · exact .inl z
    · exact .inr ⟨z1, c, z2, o, k _ _ (I.cne _ _ z2) z3, z4⟩
  · obtain ⟨v, o, z1, z2⟩ := I.cell x c q
    exact ⟨v, o, k _ _ (I.cne _ _ q) z1, z2⟩
  · obtain ⟨z1, z2, z3, z4⟩ := I.pin p hp
    exact ⟨k _ _ z3 z1, z2, z3, z4⟩
  · refine (I.hok b o q).stay (fun c v hc r => k _ _ ?_ r) (fun _ z => z) fun _ _ z => z
    rintro rfl
    rcases hc with z | z
    · rw [← z, I.free] at q; cases q
    · rw [I.free] at z; cases z
theorem fr_all (I : Inv X pins σ H s) {m : Str → Option Value} (hm : s.heap.Ns X.env.locals m) : Fr X.base X.env.locals s.heap m := ⟨hm, I.bk, Nat.le_trans I.ok.bsz I.ok.above⟩
theorem kept_all {h' : Heap} {m : Str → Option Value} (F : Fr X.base X.env.locals h' m) (N : News X.base X.env.locals h' (allNews X.base s.heap X.env.locals)) (I : Inv X pins σ H s) : ∀ b o, b ≠ X.env.locals → s.heap.get? b = some o → h'.get? b = some o := fun b o n q => by
  cases e : X.base.get? b with
  | none => exact (N (b, o) (mem_allNews n e q)).1
  | some o' =>
    have z := I.bk b o' e
    rw [q] at z
    cases z
    exact F.keep b o e
end
section
variable {X : Cx}
def rSum (K : PySem.W.Frag) : List V → Hp → VK → Prop := fun xs H Q => ∃ (p : Addr) (ns : List Int), xs = [.ref p] ∧ SqL K H p (ns.map V.int) ∧ Q (.int ns.sum) H
theorem call_sum (hc : X.calm = true) : CallR X (.builtin "sum") (rSum X.K) := by
  intro pins s σ H xs us Q I r h
  obtain ⟨p, ns, rfl, hp, q⟩ := h
  obtain ⟨u, rfl, ru⟩ := r.one
  cases (show u = Value.ref p from ru)
  obtain ⟨its, rv, pl, _⟩ := I.list hp
  obtain ⟨m, hm, hl⟩ := I.loc
  exact LSm.sum_ints (fr_all I hm) news_all (I.ok.hd hc) pl.isList (ints_of rv) fun h' tk t' F N =>
    ⟨.int ns.sum, H, I.keptL hl (kept_all F N I) F.ns, ⟨_, rfl⟩, q⟩
def rAny (K : PySem.W.Frag) (f : List Bool → Bool) : List V → Hp → VK → Prop := fun xs H Q => ∃ (p : Addr) (bs : List Bool), xs = [.ref p] ∧ SqL K H p (bs.map V.bl) ∧ Q (.bl (f bs)) H
end
end L2

namespace L2
open PySem PySem.Spec PyProof.Rows
mutual
/-- a value that is data -/
inductive DV (K : PySem.W.Frag) (H : Hp) : V → PyData → Prop
  | non : DV K H .non .none
  | bl (b : Bool) : DV K H (.bl b) (.bool b)
  | int (i : Int) : DV K H (.int i) (.int i)
  | str (x : Str) : DV K H (.str x) (.str x)
  | lst {a : Addr} {xs : List V} {ds : List PyData} : SqL K H a xs → DVs K H xs ds → DV K H (.ref a) (.list ds)
  | tup {a : Addr} {xs : List V} {ds : List PyData} : SqT K H a xs → DVs K H xs ds → DV K H (.ref a) (.tuple ds)
inductive DVs (K : PySem.W.Frag) (H : Hp) : List V → List PyData → Prop
  | nil : DVs K H [] []
  | cons {v : V} {vs : List V} {d : PyData} {ds : List PyData} : DV K H v d → DVs K H vs ds → DVs K H (v :: vs) (d :: ds)
end
section
variable {X : Cx} {pins : List (Addr × Obj)} {σ : St} {H : Hp} {s : Shared}
mutual
theorem dv_reads (I : Inv X pins σ H s) : ∀ {v : V} {d : PyData} {u : Value}, DV X.K H v d → RelV v u → ∃ as, Reads s.heap u d as
  | _, _, u, .non, r => by cases (show u = Value.none from r); exact ⟨_, .none⟩
  | _, _, u, .bl b, r => by cases (show u = Value.bool b from r); exact ⟨_, .bool b⟩
  | _, _, u, .int i, r => by obtain ⟨t, rfl⟩ := (show ∃ t, u = Value.int i t from r); exact ⟨_, .int i t⟩
  | _, _, u, .str x, r => by obtain ⟨t, rfl⟩ := (show ∃ t, u = Value.str x t from r); exact ⟨_, .str x t⟩
  | _, _, u, .lst (a := a) h q, r => by
    cases (show u = Value.ref a from r)
    obtain ⟨its, rv, ⟨o, n, e, c, d, f⟩, _⟩ := I.list h
    obtain ⟨as, ra⟩ := dvs_reads I q rv
    exact ⟨_, .list e c f ra⟩
  | _, _, u, .tup (a := a) h q, r => by
    cases (show u = Value.ref a from r)
    obtain ⟨its, rv, ⟨o, e, c, n, f⟩, _⟩ := I.tuple h
    obtain ⟨as, ra⟩ := dvs_reads I q rv
    exact ⟨_, .tuple e c f ra⟩
theorem dvs_reads (I : Inv X pins σ H s) : ∀ {vs : List V} {ds : List PyData} {us : List Value}, DVs X.K H vs ds → Vals vs us → ∃ as, ReadsAll s.heap us ds as
  | _, _, _, .nil, .nil => ⟨_, .nil⟩
  | _, _, _, .cons h q, .cons r rr => by
    obtain ⟨as, ra⟩ := dv_reads I h r
    obtain ⟨bs, rb⟩ := dvs_reads I q rr
    exact ⟨_, .cons ra rb⟩
end
end
section
variable {X : Cx}
def rEqD (K : PySem.W.Frag) (f : Bool → Bool) : R2 := fun x y H Q => ∃ d e, DV K H x d ∧ DV K H y e ∧ d.canLay0 = true ∧ e.canLay0 = true ∧ d.depth ≤ 64 ∧ Q (.bl (f (d.eqv e))) H
theorem op_eqD (hu : X.A.units + 64 < cLine) : OpR X (compareOp .Eq) (rEqD X.K id) := by
  intro pins s σ H x y v u Q I rx ry h
  obtain ⟨d, e, hd, he, c1, c2, dp, q⟩ := h
  obtain ⟨as, ra⟩ := dv_reads I hd rx
  obtain ⟨bs, rb⟩ := dv_reads I he ry
  exact SeqAt.compareEq_reads ra rb c1 c2 (by omega) ⟨.bl _, H, I, rfl, q⟩
theorem op_neD (hu : X.A.units + 64 < cLine) : OpR X (compareOp .NotEq) (rEqD X.K not) := by
  intro pins s σ H x y v u Q I rx ry h
  obtain ⟨d, e, hd, he, c1, c2, dp, q⟩ := h
  obtain ⟨as, ra⟩ := dv_reads I hd rx
  obtain ⟨bs, rb⟩ := dv_reads I he ry
  exact SeqAt.compareNe_reads ra rb c1 c2 (by omega) ⟨.bl _, H, I, rfl, q⟩
end
/-! ### lists of ints as data -/
def dI (ns : List Int) : PyData := .list (ns.map PyData.int)
theorem dvs_ints {K : PySem.W.Frag} {H : Hp} : ∀ {ns : List Int}, DVs K H (ns.map V.int) (ns.map PyData.int)
  | [] => .nil
  | n :: ns => .cons (.int n) dvs_ints
theorem dv_ints {K : PySem.W.Frag} {H : Hp} {a : Addr} {ns : List Int} (h : SqL K H a (ns.map V.int)) : DV K H (.ref a) (dI ns) := .lst h dvs_ints
theorem layAll_ints : ∀ {ns : List Int}, PyData.canLayAll0 (ns.map PyData.int) = true
  | [] => rfl
  | n :: ns => by
    rw [List.map_cons]
    show (PyData.canLay0 (.int n) && PyData.canLayAll0 (ns.map PyData.int)) = true
    rw [layAll_ints]; rfl
theorem lay_ints {ns : List Int} : (dI ns).canLay0 = true := layAll_ints
theorem depthAll_ints : ∀ {ns : List Int}, PyData.depthAll (ns.map PyData.int) ≤ 1
  | [] => by decide
  | n :: ns => by
    have := depthAll_ints (ns := ns)
    rw [List.map_cons]
    show max (PyData.depth (.int n)) (PyData.depthAll (ns.map PyData.int)) ≤ 1
    have e : PyData.depth (.int n) ≤ 1 := by show _ ≤ _; simp [PyData.depth]
    omega
end L2
namespace L2
open PySem
theorem dep_list {xs : List PyData} {n : Nat} (h : PyData.depthAll xs ≤ n) : (PyData.list xs).depth ≤ n + 1 := by
  have e : (PyData.list xs).depth = PyData.depthAll xs + 1 := by first | rfl | (simp [PyData.depth]; done) | (simp [PyData.depth]; omega)
  omega
theorem dep_tup {xs : List PyData} {n : Nat} (h : PyData.depthAll xs ≤ n) : (PyData.tuple xs).depth ≤ n + 1 := by
  have e : (PyData.tuple xs).depth = PyData.depthAll xs + 1 := by first | rfl | (simp [PyData.depth]; done) | (simp [PyData.depth]; omega)
  omega
theorem dep_nil {n : Nat} : PyData.depthAll [] ≤ n := by
  have e : PyData.depthAll [] = 0 := by first | rfl | simp [PyData.depthAll]
  omega
theorem dep_cons {x : PyData} {xs : List PyData} {n : Nat} (h : x.depth ≤ n) (h' : PyData.depthAll xs ≤ n) : PyData.depthAll (x :: xs) ≤ n := by
  have e : PyData.depthAll (x :: xs) = max x.depth (PyData.depthAll xs) := by first | rfl | simp [PyData.depthAll]
  omega
theorem dep_ints {ns : List Int} : (dI ns).depth ≤ 2 := dep_list depthAll_ints
end L2

namespace L2
open PySem PySem.Spec PyProof.Rows
theorem sql_same {K : PySem.W.Frag} {H H' : Hp} {a : Addr} {xs : List V} (h : SqL K H a xs) (s : Same H H') : SqL K H' a xs := by
  rcases h with h | h
  · exact .inl (h.imp (fun z => s _ _ z) fun ⟨o, z⟩ => ⟨o, s _ _ z⟩)
  · exact .inr h
theorem same_upd {H H' : Hp} {a : Addr} {o : HO} (s : Same H H') (h : H a = none) : Same H (upd H' a o) := fun c x z => by rw [upd_ne (ne_of_none z h)]; exact s _ _ z
theorem Same.none {H H' : Hp} {a : Addr} (s : Same H H') (h : H' a = none) : H a = none := by
  cases e : H a with
  | none => rfl
  | some o => rw [s _ _ e] at h; cases h
/-- a piece of a list of ints -/
def cutI (cs : List Int) (a b : Int) : List Int := (cs.drop (min a.toNat cs.length)).take (min b.toNat cs.length - min a.toNat cs.length)
theorem sIx_pos {n d : Nat} {a : Int} (h : 0 ≤ a) : HT.sIx n d (some a) = min a.toNat n := by
  show (if a < 0 then (a + (n : Int)).toNat else min a.toNat n) = min a.toNat n
  rw [if_neg (by omega)]
theorem cutV_int {cs : List Int} {a b : Int} (ha : 0 ≤ a) (hb : 0 ≤ b) : cutV (cs.map V.int) (some a) (some b) = (cutI cs a b).map V.int := by
  unfold cutV cutI
  rw [sIx_pos ha, sIx_pos hb, List.length_map, ← List.map_drop, ← List.map_take]
theorem cutV_take {cs : List Int} {b : Int} (hb : 0 ≤ b) : cutV (cs.map V.int) none (some b) = (cs.take b.toNat).map V.int := by
  unfold cutV
  rw [HT.sIx_none, sIx_pos hb, List.length_map, List.drop_zero, Nat.sub_zero, ← List.map_take]
  congr 1
  rw [List.take_eq_take_iff]
  omega
theorem sum_take_succ {ns : List Int} {i : Nat} (h : i < ns.length) : (ns.take (i + 1)).sum = (ns.take i).sum + ns.getD i 0 := by
  have e : ns.take (i + 1) = ns.take i ++ [ns.getD i 0] := by
    rw [List.take_add_one, List.getD_eq_getElem?_getD, List.getElem?_eq_getElem h]; rfl
  rw [e, List.sum_append]
  simp
theorem sum_mono {ns : List Int} (h : ∀ v ∈ ns, 0 ≤ v) : ∀ (i : Nat), 0 ≤ (ns.take i).sum ∧ (ns.take i).sum ≤ ns.sum := by
  induction ns with
  | nil => intro i; simp
  | cons n ns ih =>
    intro i
    have z := h n List.mem_cons_self
    cases i with
    | zero =>
      have := (ih (fun v hv => h v (List.mem_cons_of_mem _ hv)) ns.length).1
      rw [List.take_length] at this
      simp; omega
    | succ i =>
      have := ih (fun v hv => h v (List.mem_cons_of_mem _ hv)) i
      rw [List.take_succ_cons, List.sum_cons, List.sum_cons]
      omega
end L2

namespace L2
open PySem PySem.Spec PyProof.Rows
section
variable {P : Program} {w : World} {K : PySem.W.Frag} {mg : Str → Option Value} {base : Heap}
/-- a method of a class, as it stands behind the top -/
def MethIn (K : PySem.W.Frag) (C : Addr) (x qual : Str) (st : Stmt) (ps : List Str) : Prop := ∃ (f : Addr) (fd : FuncData), Meth K C x f ∧ Fun K x qual st f fd ∧ Binds K fd ps []
/-- .. keeping its promise -/
def OkM (P : Program) (w : World) (K : PySem.W.Frag) (mg : Str → Option Value) (base : Heap) (CX : CXT) (k : Nat) (C : Addr) (x : Str) (ps : List Str) (sp : Sp) : Prop :=
  ∃ (f : Addr) (fd : FuncData), Meth K C x f ∧ Binds K fd ps [] ∧ FnOk P w K mg base CX k f fd ps sp
/-- the making of an object: its __init__ keeping its promise -/
def InitIn (K : PySem.W.Frag) (C : Addr) (qual : Str) (st : Stmt) (ps : List Str) : Prop := ∃ (f : Addr) (fd : FuncData), Mk K C f ∧ Fun K "__init__" qual st f fd ∧ Binds K fd ps []
def OkI (P : Program) (w : World) (K : PySem.W.Frag) (mg : Str → Option Value) (base : Heap) (CX : CXT) (k : Nat) (C : Addr) (ps : List Str) (sp : Sp) : Prop :=
  ∃ (f : Addr) (fd : FuncData), Mk K C f ∧ Binds K fd ps [] ∧ FnOk P w K mg base CX k f fd ps sp
theorem OkM.mono {CX : CXT} {j k : Nat} {C : Addr} {x : Str} {ps : List Str} {sp : Sp} (o : OkM P w K mg base CX j C x ps sp) (h : j ≤ k) : OkM P w K mg base CX k C x ps sp := by
  obtain ⟨f, fd, a, b, c⟩ := o
  exact ⟨f, fd, a, b, c.mono h⟩
end
section
variable {X : Cx} {CX : CXT} {k : Nat} {C : Addr} {ps : List Str} {sp : Sp} {E : XK} {x m : Str} {p pos apos : Pos} {e o : Expr} {es : List Expr} {ta : TE} {t : TA}
theorem pe_okI (h : OkI X.prog X.w X.K X.mg X.base CX k C ps sp) (hm : X.mg x = some (.ref C)) (hr : Room (k + 1) X.A) (hg : Gl X x) (hx : Passes CX X E) (ha : PA X (e :: es) t) (hdb : (x == ("__debug__" : Str)) = false := by decide)
    (he : starEach (e :: es) X.env = (false, eval e X.env) :: starEach es X.env := by rfl) (hpl : (backTo pos (starEach es X.env)).any (·.1) = false := by rfl) : PE X (.Call (.Name x p) (e :: es) [] pos) (tMake C sp [] E t) := by
  obtain ⟨f, fd, a, b, d⟩ := h
  exact pe_make a d hr hg hm b .nil hx ha hdb he hpl
end
theorem set_ints {ns : List Int} {j : Nat} {n : Int} : (ns.map V.int).set j (.int n) = (ns.set j n).map V.int := by rw [List.map_set]
theorem ixN_nat {n : Nat} {i : Int} (h0 : 0 ≤ i) (h1 : i < n) : ixN n i = some i.toNat := by
  unfold ixN
  rw [if_pos h0, if_pos h1]
end L2

namespace My
open PySem PySem.W PyProof.Rows
theorem and_half (x y : Int) : Builtin.bitAnd x y / 2 = Builtin.bitAnd (x / 2) (y / 2) ∧ Builtin.bitAnd x y % 2 = (x % 2) * (y % 2) := by
  have h := kbt_halves x y
  rcases (by omega : x % 2 = 0 ∨ x % 2 = 1) with a | a <;> rcases (by omega : y % 2 = 0 ∨ y % 2 = 1) with b | b <;>
    (rw [a, b] at h ⊢; simp at h ⊢; omega)
theorem or_half (x y : Int) : Builtin.bitOr x y / 2 = Builtin.bitOr (x / 2) (y / 2) ∧ Builtin.bitOr x y % 2 = max (x % 2) (y % 2) := by
  rw [bitOr_and, bitOr_and]
  have h := kbt_halves x y
  rcases (by omega : x % 2 = 0 ∨ x % 2 = 1) with a | a <;> rcases (by omega : y % 2 = 0 ∨ y % 2 = 1) with b | b <;>
    (rw [a, b] at h ⊢; simp at h; omega)
theorem xor_half (x y : Int) : Builtin.bitXor x y / 2 = Builtin.bitXor (x / 2) (y / 2) ∧ Builtin.bitXor x y % 2 = (x % 2 + y % 2) % 2 := by
  rw [bitXor_and, bitXor_and]
  have h := kbt_halves x y
  rcases (by omega : x % 2 = 0 ∨ x % 2 = 1) with a | a <;> rcases (by omega : y % 2 = 0 ∨ y % 2 = 1) with b | b <;>
    (rw [a, b] at h ⊢; simp at h; omega)
theorem div_succ (x : Int) (k : Nat) : x / 2 ^ (k + 1) = x / 2 / 2 ^ k := by
  rw [Int.ediv_ediv_of_nonneg (by decide), Int.pow_succ, Int.mul_comm]
theorem and_bit (k : Nat) : ∀ x y : Int, Builtin.bitAnd x y / 2 ^ k % 2 = (x / 2 ^ k % 2) * (y / 2 ^ k % 2) := by
  induction k with
  | zero => intro x y; simpa using (and_half x y).2
  | succ k ih => intro x y; rw [div_succ, div_succ, div_succ, (and_half x y).1, ih]
theorem or_bit (k : Nat) : ∀ x y : Int, Builtin.bitOr x y / 2 ^ k % 2 = max (x / 2 ^ k % 2) (y / 2 ^ k % 2) := by
  induction k with
  | zero => intro x y; simpa using (or_half x y).2
  | succ k ih => intro x y; rw [div_succ, div_succ, div_succ, (or_half x y).1, ih]
theorem xor_bit (k : Nat) : ∀ x y : Int, Builtin.bitXor x y / 2 ^ k % 2 = (x / 2 ^ k % 2 + y / 2 ^ k % 2) % 2 := by
  induction k with
  | zero => intro x y; simpa using (xor_half x y).2
  | succ k ih => intro x y; rw [div_succ, div_succ, div_succ, (xor_half x y).1, ih]
/-- within n bits and a sign -/
def In (n : Nat) (x : Int) : Prop := -(2 ^ n) ≤ x ∧ x < 2 ^ n
theorem in_half {n : Nat} {x : Int} : In (n + 1) x ↔ In n (x / 2) := by
  unfold In
  rw [Int.pow_succ]
  constructor
  · intro h; omega
  · intro h; omega
theorem in_zero {x : Int} (h : In 0 x) : x = 0 ∨ x = -1 := by
  unfold In at h; omega
theorem and_in (n : Nat) : ∀ x y : Int, In n x → In n y → In n (Builtin.bitAnd x y) := by
  induction n with
  | zero =>
    intro x y hx hy
    rcases in_zero hx with a | a <;> rcases in_zero hy with b | b <;> (subst a; subst b; unfold In; decide)
  | succ n ih => intro x y hx hy; rw [in_half] at *; rw [(and_half x y).1]; exact ih _ _ hx hy
theorem or_in (n : Nat) : ∀ x y : Int, In n x → In n y → In n (Builtin.bitOr x y) := by
  induction n with
  | zero =>
    intro x y hx hy
    rcases in_zero hx with a | a <;> rcases in_zero hy with b | b <;> (subst a; subst b; unfold In; decide)
  | succ n ih => intro x y hx hy; rw [in_half] at *; rw [(or_half x y).1]; exact ih _ _ hx hy
theorem xor_in (n : Nat) : ∀ x y : Int, In n x → In n y → In n (Builtin.bitXor x y) := by
  induction n with
  | zero =>
    intro x y hx hy
    rcases in_zero hx with a | a <;> rcases in_zero hy with b | b <;> (subst a; subst b; unfold In; decide)
  | succ n ih => intro x y hx hy; rw [in_half] at *; rw [(xor_half x y).1]; exact ih _ _ hx hy
theorem ext_half {x y : Int} (h : x / 2 = y / 2) (g : x % 2 = y % 2) : x = y := by omega
theorem and_assoc (n : Nat) : ∀ x y z : Int, In n x → In n y → In n z → Builtin.bitAnd (Builtin.bitAnd x y) z = Builtin.bitAnd x (Builtin.bitAnd y z) := by
  induction n with
  | zero =>
    intro x y z hx hy hz
    rcases in_zero hx with a | a <;> rcases in_zero hy with b | b <;> rcases in_zero hz with c | c <;> (subst a; subst b; subst c; decide)
  | succ n ih =>
    intro x y z hx hy hz; rw [in_half] at *
    refine ext_half ?_ ?_
    · rw [(and_half _ z).1, (and_half x y).1, (and_half x _).1, (and_half y z).1]; exact ih _ _ _ hx hy hz
    · rw [(and_half _ z).2, (and_half x y).2, (and_half x _).2, (and_half y z).2, Int.mul_assoc]
theorem or_assoc (n : Nat) : ∀ x y z : Int, In n x → In n y → In n z → Builtin.bitOr (Builtin.bitOr x y) z = Builtin.bitOr x (Builtin.bitOr y z) := by
  induction n with
  | zero =>
    intro x y z hx hy hz
    rcases in_zero hx with a | a <;> rcases in_zero hy with b | b <;> rcases in_zero hz with c | c <;> (subst a; subst b; subst c; decide)
  | succ n ih =>
    intro x y z hx hy hz; rw [in_half] at *
    refine ext_half ?_ ?_
    · rw [(or_half _ z).1, (or_half x y).1, (or_half x _).1, (or_half y z).1]; exact ih _ _ _ hx hy hz
    · rw [(or_half _ z).2, (or_half x y).2, (or_half x _).2, (or_half y z).2]; omega
theorem xor_assoc (n : Nat) : ∀ x y z : Int, In n x → In n y → In n z → Builtin.bitXor (Builtin.bitXor x y) z = Builtin.bitXor x (Builtin.bitXor y z) := by
  induction n with
  | zero =>
    intro x y z hx hy hz
    rcases in_zero hx with a | a <;> rcases in_zero hy with b | b <;> rcases in_zero hz with c | c <;> (subst a; subst b; subst c; decide)
  | succ n ih =>
    intro x y z hx hy hz; rw [in_half] at *
    refine ext_half ?_ ?_
    · rw [(xor_half _ z).1, (xor_half x y).1, (xor_half x _).1, (xor_half y z).1]; exact ih _ _ _ hx hy hz
    · rw [(xor_half _ z).2, (xor_half x y).2, (xor_half x _).2, (xor_half y z).2]; omega
theorem xor_comm (x y : Int) : Builtin.bitXor x y = Builtin.bitXor y x := by rw [bitXor_and, bitXor_and, bitAnd_comm]; omega
end My

namespace My
open PySem PySem.W PyProof.Rows
def kept (n : Int) : Int := Int.fmod (n + 9223372036854775808) 18446744073709551616 - 9223372036854775808
def Kin (x : Int) : Prop := -9223372036854775808 ≤ x ∧ x ≤ 9223372036854775807
theorem kin_in {x : Int} : Kin x ↔ In 63 x := by
  unfold Kin In
  have e : (2 : Int) ^ 63 = 9223372036854775808 := by decide
  rw [e]; omega
/-- an operation that may be taken in any order on the kept numbers -/
structure Free (op : Int → Int → Int) : Prop where
  cl : ∀ a b, Kin a → Kin b → Kin (op a b)
  cm : ∀ a b, Kin a → Kin b → op a b = op b a
  as : ∀ a b c, Kin a → Kin b → Kin c → op (op a b) c = op a (op b c)
theorem free_both : Free Builtin.bitAnd := ⟨fun a b h g => kin_in.mpr (and_in 63 a b (kin_in.mp h) (kin_in.mp g)), fun a b _ _ => bitAnd_comm a b, fun a b c h g i => and_assoc 63 a b c (kin_in.mp h) (kin_in.mp g) (kin_in.mp i)⟩
theorem free_either : Free Builtin.bitOr := ⟨fun a b h g => kin_in.mpr (or_in 63 a b (kin_in.mp h) (kin_in.mp g)), fun a b _ _ => by rw [bitOr_and, bitOr_and, bitAnd_comm]; omega, fun a b c h g i => or_assoc 63 a b c (kin_in.mp h) (kin_in.mp g) (kin_in.mp i)⟩
theorem free_odd : Free Builtin.bitXor := ⟨fun a b h g => kin_in.mpr (xor_in 63 a b (kin_in.mp h) (kin_in.mp g)), fun a b _ _ => xor_comm a b, fun a b c h g i => xor_assoc 63 a b c (kin_in.mp h) (kin_in.mp g) (kin_in.mp i)⟩
def fold1 (op : Int → Int → Int) : List Int → Int
  | [] => 0
  | x :: xs => xs.foldl op x
end My

namespace L2
open PySem PySem.Spec PyProof.Rows
/-- a method of a class keeping the promise sp -/
def DispX (P : Program) (w : World) (K : PySem.W.Frag) (mg : Str → Option Value) (base : Heap) (CX : CXT) (k : Nat) (m : Str) (C : Addr) (sp : Sp) : Prop := Cls K C ∧ ∃ (f : Addr) (fd : FuncData) (ps : List Str), Meth K C m f ∧ FnOk P w K mg base CX k f fd ps sp ∧ Binds K fd ps []
theorem DispX.mono {P : Program} {w : World} {K : PySem.W.Frag} {mg : Str → Option Value} {base : Heap} {CX : CXT} {j k : Nat} {m : Str} {C : Addr} {sp : Sp} (d : DispX P w K mg base CX j m C sp) (h : j ≤ k) : DispX P w K mg base CX k m C sp := by
  obtain ⟨c, f, fd, ps, a, b, e⟩ := d
  exact ⟨c, f, fd, ps, a, b.mono h, e⟩
def tMethX (Ds : Addr → Sp → Prop) (m : Str) (E : XK) (ta : TE) (t : TA) : TE := fun σ H Q => ta σ H fun x H1 => ∃ a C dx fs sp, x = .ref a ∧ H1 a = some (.ins C dx fs) ∧ Ds C sp ∧ fs.lookup m = none ∧ t σ H1 fun vs H2 => sp (x :: vs) H2 Q E
section
variable {X : Cx} {σ₀ : St}
theorem pe1_methX {CX : CXT} {k : Nat} {E : XK} {m : Str} {apos pos : Pos} {o e : Expr} {es : List Expr} {ta : TE} {t : TA} {pl : Sem Bool} (hr : Room k X.A) (hx : Passes1 CX X σ₀ E) (he : PE X o ta) (ha : PA X (e :: es) t)
    (hst : starEach (e :: es) X.env = (false, eval e X.env) :: starEach es X.env := by rfl) (hpl : (backTo pos (starEach es X.env)).any (·.1) = false := by rfl)
    (ht : eval (.Call (.Attribute o m apos) (e :: es) [] pos) X.env = (do
      let ov ← eval o X.env
      standAt apos.atName
      let (f, first) ← holding [ov] (getMethod ov m pl)
      callWith pos f first (backTo pos (starEach (e :: es) X.env)) (backToKw pos (keywordEach [] X.env))) := by rfl) :
    PE1 X σ₀ (.Call (.Attribute o m apos) (e :: es) [] pos) (tMethX (DispX X.prog X.w X.K X.mg X.base CX k m) m E ta t) := by
  intro pins s H Q I h
  refine PySem.W.methodCall_KW (pl := pl) (thn (he pins s σ₀ H _ I h) fun u s1 ⟨x, H1, I1, rx, a, C, dx, fs, sp, ex, ea, dp, l, q⟩ => ?_) ht
  subst ex
  obtain rfl : u = Value.ref a := rx
  obtain ⟨cl, f, fd, ps, hm, F, hb⟩ := dp
  refine getmeth_ok I1 ea cl hm l ?_
  refine PySem.W.callWith_K (first := [.ref a]) (h₀ := X.base) I.ok.mod.kin hm.kp (thn (ha pos pins s1 σ₀ H1 _ I1 q) fun us s2 ⟨vs, H2, I2, r, q2⟩ => ⟨I2.kIn, ?_⟩) hst hpl
  exact run_fn1 (us := .ref a :: us) (vs := .ref a :: vs) (dvs := []) (ds := []) F hr hb .nil hx I2 (.cons rfl r) (by simpa using q2)
theorem pe_methX {CX : CXT} {k : Nat} {E : XK} {m : Str} {apos pos : Pos} {o e : Expr} {es : List Expr} {ta : TE} {t : TA} {pl : Sem Bool} (hr : Room k X.A) (hx : Passes CX X E) (he : PE X o ta) (ha : PA X (e :: es) t)
    (hst : starEach (e :: es) X.env = (false, eval e X.env) :: starEach es X.env := by rfl) (hpl : (backTo pos (starEach es X.env)).any (·.1) = false := by rfl)
    (ht : eval (.Call (.Attribute o m apos) (e :: es) [] pos) X.env = (do
      let ov ← eval o X.env
      standAt apos.atName
      let (f, first) ← holding [ov] (getMethod ov m pl)
      callWith pos f first (backTo pos (starEach (e :: es) X.env)) (backToKw pos (keywordEach [] X.env))) := by rfl) :
    PE X (.Call (.Attribute o m apos) (e :: es) [] pos) (tMethX (DispX X.prog X.w X.K X.mg X.base CX k m) m E ta t) :=
  PE1.all fun _ => pe1_methX hr hx.one he ha hst hpl ht
end
end L2
namespace FM
open PySem L2
abbrev Kin (x : Int) : Prop := -9223372036854775808 ≤ x ∧ x ≤ 9223372036854775807
def kept (n : Int) : Int := (n + 9223372036854775808) % (2 * 9223372036854775808) - 9223372036854775808
def signs : List Str := ["+", "-", "*", "/", "rest", "least", "most", "<", "=", "&", "|", "^"]
def doneR (sg : Str) (a b : Int) : Option Int :=
  if sg = "+" then some (kept (a + b)) else if sg = "-" then some (kept (a - b)) else if sg = "*" then some (kept (a * b))
  else if sg = "/" then (if b = 0 then none else some (kept (a.fdiv b))) else if sg = "rest" then (if b = 0 then none else some (a.fmod b))
  else if sg = "least" then some (if b < a then b else a) else if sg = "most" then some (if b > a then b else a)
  else if sg = "<" then some (if a < b then 1 else 0) else if sg = "=" then some (if a = b then 1 else 0)
  else if sg = "&" then some (Builtin.bitAnd a b) else if sg = "|" then some (Builtin.bitOr a b) else some (Builtin.bitXor a b)
def edges : List Int := [-9223372036854775808, 9223372036854775807, -1, 4294967296, -9223372036854775807, 3037000500]
def keptBy (c : Int) : Int :=
  if c % 4 = 0 then c / 4 % 7 - 3 else if c % 4 = 1 then edges.getD (c / 4 % 6).toNat 0 else if c % 4 = 2 then c / 4 * 48271 % 2001 - 1000
  else c / 4 * 2862933555777941757 % 18446744073709551616 - 9223372036854775808
theorem edge_at : ∀ k : Nat, k < 6 → (edges.map V.int)[k]? = some (V.int (edges.getD k 0)) ∧ Kin (edges.getD k 0) := by decide
theorem keptBy_in (c : Int) : Kin (keptBy c) := by
  unfold keptBy
  split
  · omega
  · split
    · exact (edge_at _ (by omega)).2
    · split <;> omega
def bitDue (sg : Str) (a b : Int) : Int := if sg = "&" then a * b else if sg = "|" then (if b > a then b else a) else (a + b) % 2
theorem pw_pos (n : Nat) : (0 : Int) < 2 ^ n := by
  induction n with
  | zero => decide
  | succ n ih => rw [Int.pow_succ]; omega
theorem fbit (x : Int) (n : Nat) : x.fdiv (2 ^ n) % 2 = x / 2 ^ n % 2 := by rw [Int.fdiv_eq_ediv_of_nonneg _ (Int.le_of_lt (pw_pos n))]
theorem in63 {x : Int} : Kin x ↔ My.In 63 x := by
  unfold Kin My.In
  have e : (2 : Int) ^ 63 = 9223372036854775808 := by decide
  rw [e]; omega
theorem bits_ok {sg : Str} (hs : sg = "&" ∨ sg = "|" ∨ sg = "^") {a b : Int} (ha : Kin a) (hb : Kin b) : ∃ r, doneR sg a b = some r ∧ Kin r ∧ ∀ n : Nat, r.fdiv (2 ^ n) % 2 = bitDue sg (a.fdiv (2 ^ n) % 2) (b.fdiv (2 ^ n) % 2) := by
  rcases hs with rfl | rfl | rfl
  · exact ⟨_, rfl, in63.mpr (My.and_in 63 a b (in63.mp ha) (in63.mp hb)), fun n => by rw [fbit, fbit, fbit, My.and_bit]; rfl⟩
  · refine ⟨_, rfl, in63.mpr (My.or_in 63 a b (in63.mp ha) (in63.mp hb)), fun n => ?_⟩
    rw [fbit, fbit, fbit, My.or_bit]
    show max _ _ = if _ > _ then _ else _
    split <;> omega
  · exact ⟨_, rfl, in63.mpr (My.xor_in 63 a b (in63.mp ha) (in63.mp hb)), fun n => by rw [fbit, fbit, fbit, My.xor_bit]; rfl⟩
theorem kept_in (n : Int) : Kin (kept n) := by unfold kept; omega
theorem done_in {sg : Str} (hs : sg ∈ signs) {a b r : Int} (ha : Kin a) (hb : Kin b) (h : doneR sg a b = some r) : Kin r := by
  simp only [signs, List.mem_cons, List.not_mem_nil, or_false] at hs
  have bit : (sg = "&" ∨ sg = "|" ∨ sg = "^") → Kin r := fun z => by
    obtain ⟨r', e, k, _⟩ := bits_ok z ha hb
    rw [e] at h; cases h; exact k
  rcases hs with rfl | rfl | rfl | rfl | rfl | rfl | rfl | rfl | rfl | rfl | rfl | rfl
  · cases h; exact kept_in _
  · cases h; exact kept_in _
  · cases h; exact kept_in _
  · have h' : (if b = 0 then none else some (kept (a.fdiv b))) = some r := h
    split at h'
    · cases h'
    · cases h'; exact kept_in _
  · have h' : (if b = 0 then none else some (a.fmod b)) = some r := h
    split at h'
    · cases h'
    · rename_i z
      cases h'
      rcases (by omega : 0 < b ∨ b < 0) with p | p
      · have h1 := Int.fmod_nonneg_of_pos a p
        have h2 := Int.fmod_lt_of_pos a p
        omega
      · have h1 : a.fmod b ≤ 0 := by
          have e := Int.neg_fmod_neg a b
          have h3 := Int.fmod_nonneg_of_pos (-a) (show 0 < -b by omega)
          omega
        have h2 : b < a.fmod b := by
          have e := Int.neg_fmod_neg a b
          have h3 := Int.fmod_lt_of_pos (-a) (show 0 < -b by omega)
          omega
        omega
  · have h' : some (if b < a then b else a) = some r := h
    cases h'; split <;> omega
  · have h' : some (if b > a then b else a) = some r := h
    cases h'; split <;> omega
  · have h' : some (if a < b then (1 : Int) else 0) = some r := h
    cases h'; split <;> omega
  · have h' : some (if a = b then (1 : Int) else 0) = some r := h
    cases h'; split <;> omega
  · exact bit (.inl rfl)
  · exact bit (.inr (.inl rfl))
  · exact bit (.inr (.inr rfl))
/-! ### forms -/
inductive Fm | num (n : Int) | here | cell (r : Int) | shi (r by' other : Int) | loc (at' : Int) | at' (r : Int) (p : Fm) | pair (sg : Str) (l r : Fm) | cho (t l r : Fm)
inductive Res | ok (n : Int) | nought | outside
  deriving DecidableEq
structure SpotD where
  lens : List Int
  cells : List Int
  place : Int
  own : List Int
structure Cs where
  num : Addr
  here : Addr
  cell : Addr
  shi : Addr
  loc : Addr
  at' : Addr
  pair : Addr
  cho : Addr
  spot : Addr
def FormAt (c : Cs) (H : Hp) : Fm → Addr → Prop
  | .num n, x => ∃ dx, H x = some (.ins c.num dx [("number", .int n)])
  | .here, x => ∃ dx, H x = some (.ins c.here dx [])
  | .cell r, x => ∃ dx, H x = some (.ins c.cell dx [("row", .int r)])
  | .shi r b o, x => ∃ dx, H x = some (.ins c.shi dx [("row", .int r), ("by", .int b), ("other", .int o)])
  | .loc a, x => ∃ dx, H x = some (.ins c.loc dx [("at", .int a)])
  | .at' r p, x => ∃ dx y, H x = some (.ins c.at' dx [("row", .int r), ("place", .ref y)]) ∧ FormAt c H p y
  | .pair sg l r, x => ∃ dx y z, H x = some (.ins c.pair dx [("sign", .str sg), ("left", .ref y), ("right", .ref z)]) ∧ FormAt c H l y ∧ FormAt c H r z
  | .cho t l r, x => ∃ dx u y z, H x = some (.ins c.cho dx [("test", .ref u), ("left", .ref y), ("right", .ref z)]) ∧ FormAt c H t u ∧ FormAt c H l y ∧ FormAt c H r z
theorem FormAt.same {c : Cs} {H H' : Hp} (s : Same H H') : ∀ {F : Fm} {x : Addr}, FormAt c H F x → FormAt c H' F x
  | .num _, _, ⟨dx, h⟩ => ⟨dx, s _ _ h⟩
  | .here, _, ⟨dx, h⟩ => ⟨dx, s _ _ h⟩
  | .cell _, _, ⟨dx, h⟩ => ⟨dx, s _ _ h⟩
  | .shi _ _ _, _, ⟨dx, h⟩ => ⟨dx, s _ _ h⟩
  | .loc _, _, ⟨dx, h⟩ => ⟨dx, s _ _ h⟩
  | .at' _ _, _, ⟨dx, y, h, p⟩ => ⟨dx, y, s _ _ h, FormAt.same s p⟩
  | .pair _ _ _, _, ⟨dx, y, z, h, p, q⟩ => ⟨dx, y, z, s _ _ h, FormAt.same s p, FormAt.same s q⟩
  | .cho _ _ _, _, ⟨dx, u, y, z, h, o, p, q⟩ => ⟨dx, u, y, z, s _ _ h, FormAt.same s o, FormAt.same s p, FormAt.same s q⟩
structure SpotAt (c : Cs) (K : PySem.W.Frag) (H : Hp) (x : Addr) (S : SpotD) : Prop where
  ex : ∃ dx l f e o, H x = some (.ins c.spot dx [("lengths", .ref l), ("functions", .ref f), ("cells", .ref e), ("place", .int S.place), ("own", .ref o)]) ∧ SqL K H l (S.lens.map V.int) ∧ SqL K H e (S.cells.map V.int) ∧ SqL K H o (S.own.map V.int)
theorem SpotAt.same {c : Cs} {K : PySem.W.Frag} {H H' : Hp} {x : Addr} {S : SpotD} (s : Same H H') (h : SpotAt c K H x S) : SpotAt c K H' x S := by
  obtain ⟨dx, l, f, e, o, h1, h2, h3, h4⟩ := h.ex
  exact ⟨dx, l, f, e, o, s _ _ h1, sql_same h2 s, sql_same h3 s, sql_same h4 s⟩
def SpotD.start (S : SpotD) (r : Int) : Int := (S.lens.take r.toNat).sum
def SpotD.len (S : SpotD) (r : Int) : Int := S.lens.getD r.toNat 0
def SpotD.cellAt (S : SpotD) (r q : Int) : Int := S.cells.getD (S.start r + q).toNat 0
structure SpotOk (S : SpotD) : Prop where
  ln : ∀ v ∈ S.lens, 0 ≤ v
  tot : (S.cells.length : Int) = S.lens.sum
  ck : ∀ v ∈ S.cells, Kin v
  ok' : ∀ v ∈ S.own, Kin v
  pl : Kin S.place
def SpotD.has (S : SpotD) (r : Int) : Prop := 0 ≤ r ∧ r.toNat < S.lens.length
theorem cell_in {S : SpotD} (o : SpotOk S) {r q : Int} (h : S.has r) (h0 : 0 ≤ q) (h1 : q < S.len r) : 0 ≤ S.start r + q ∧ S.start r + q < S.cells.length ∧ Kin (S.cellAt r q) := by
  have m := sum_mono o.ln r.toNat
  have m2 := sum_mono o.ln (r.toNat + 1)
  have e := sum_take_succ h.2
  have t := o.tot
  unfold SpotD.start SpotD.len at *
  have a : 0 ≤ (S.lens.take r.toNat).sum + q := by omega
  have b : (S.lens.take r.toNat).sum + q < S.cells.length := by omega
  refine ⟨a, b, ?_⟩
  unfold SpotD.cellAt SpotD.start
  exact o.ck _ (L2.getD_mem (by omega))
def ev (S : SpotD) : Fm → Res
  | .num n => .ok n
  | .here => .ok S.place
  | .cell r => if S.len r = 1 then .ok (S.cellAt r 0) else .ok (S.cellAt r S.place)
  | .shi r b o => if 0 ≤ S.place + b ∧ S.place + b < S.len r then .ok (S.cellAt r (S.place + b)) else .ok o
  | .loc a => .ok (S.own.getD a.toNat 0)
  | .at' r p => match ev S p with
    | .ok q => if 0 ≤ q ∧ q < S.len r then .ok (S.cellAt r q) else .outside
    | e => e
  | .pair sg l r => match ev S l with
    | .ok a => (match ev S r with
      | .ok b => (match doneR sg a b with
        | some n => .ok n
        | none => .nought)
      | e => e)
    | e => e
  | .cho t l r => match ev S t with
    | .ok a => if a ≠ 0 then ev S l else ev S r
    | e => e
def WF (S : SpotD) : Fm → Prop
  | .num n => Kin n
  | .here => True
  | .cell r => S.has r ∧ 1 ≤ S.len r ∧ (S.len r ≠ 1 → 0 ≤ S.place ∧ S.place < S.len r)
  | .shi r _ o => S.has r ∧ Kin o
  | .loc a => 0 ≤ a ∧ a.toNat < S.own.length
  | .at' r p => S.has r ∧ WF S p
  | .pair sg l r => sg ∈ signs ∧ WF S l ∧ WF S r
  | .cho t l r => WF S t ∧ WF S l ∧ WF S r
theorem ev_kin {S : SpotD} (o : SpotOk S) : ∀ {F : Fm} {n : Int}, WF S F → ev S F = .ok n → Kin n
  | .num _, _, h, e => by cases e; exact h
  | .here, _, _, e => by cases e; exact o.pl
  | .cell r, n, h, e => by
    unfold ev at e
    split at e
    · rename_i z; cases e; exact (cell_in o h.1 (by omega) (by omega)).2.2
    · rename_i z; cases e; exact (cell_in o h.1 (h.2.2 z).1 (h.2.2 z).2).2.2
  | .shi r b o', n, h, e => by
    unfold ev at e
    split at e
    · rename_i z; cases e; exact (cell_in o h.1 z.1 z.2).2.2
    · cases e; exact h.2
  | .loc a, n, h, e => by cases e; exact o.ok' _ (L2.getD_mem h.2)
  | .at' r p, n, h, e => by
    unfold ev at e
    split at e
    · rename_i q hq
      split at e
      · rename_i z; cases e; exact (cell_in o h.1 z.1 z.2).2.2
      · cases e
    · rename_i e' hq; exact absurd e (hq n)
  | .pair sg l r, n, h, e => by
    unfold ev at e
    split at e
    · rename_i a ha
      split at e
      · rename_i b hb
        split at e
        · rename_i m hm; cases e; exact done_in h.1 (ev_kin o h.2.1 ha) (ev_kin o h.2.2 hb) hm
        · cases e
      · rename_i e' hq; exact absurd e (hq n)
    · rename_i e' hq; exact absurd e (hq n)
  | .cho t l r, n, h, e => by
    unfold ev at e
    split at e
    · split at e
      · exact ev_kin o h.2.1 e
      · exact ev_kin o h.2.2 e
    · rename_i e' hq; exact absurd e (hq n)
/-- what a form's worth comes to -/
def Out (CN OU : Addr) (r : Res) (H : Hp) (Q : VK) (E : XK) : Prop := ∀ H', Same H H' → match r with
  | .ok n => Q (.int n) H'
  | .nought => E (.ref CN) none H'
  | .outside => E (.ref OU) none H'
/-- the promise of a form -/
def Worth (P : Program) (w : World) (K : PySem.W.Frag) (mg : Str → Option Value) (base : Heap) (c : Cs) (CN OU : Addr) (k : Nat) (F : Fm) : Prop :=
  ∀ (x : Addr) (H : Hp), FormAt c H F x → ∃ C dx fs sp, H x = some (.ins C dx fs) ∧ DispX P w K mg base (CXe P w base) k "worth" C sp ∧ fs.lookup ("worth" : Str) = none ∧
    ∀ (s : Addr) (S : SpotD) (Q : VK) (E : XK), SpotAt c K H s S → SpotOk S → WF S F → Out CN OU (ev S F) H Q E → sp [.ref x, .ref s] H Q E
theorem Worth.mono {P : Program} {w : World} {K : PySem.W.Frag} {mg : Str → Option Value} {base : Heap} {c : Cs} {CN OU : Addr} {j k : Nat} {F : Fm} (h : Worth P w K mg base c CN OU j F) (l : j ≤ k) : Worth P w K mg base c CN OU k F := fun x H q => by
  obtain ⟨C, dx, fs, sp, a, b, d, e⟩ := h x H q
  exact ⟨C, dx, fs, sp, a, b.mono l, d, e⟩
theorem Out.same {CN OU : Addr} {r : Res} {H H' : Hp} {Q : VK} {E : XK} (o : Out CN OU r H Q E) (s : Same H H') : Out CN OU r H' Q E := fun H2 s2 => o H2 (s.trans s2)
end FM

namespace L2
open PySem PySem.Spec PyProof.Rows
/-! ### an exception, noted in this frame or not, leaves it -/
theorem leaving_any {M : Model} {A : Around} {E : Value → Shared → Prop} {s : Shared} {base : Heap} {env : Env} {outer : List Env} {L e : Addr} {cls a0 x : Value} {Q : Unit → Shared → Prop}
    (hfr : A.frames = some (env :: outer)) (hl : s.heap.FunFrames base (env :: outer)) (hf : env.frame = some L) (ht : s.heap.TracedAtW base e cls a0 x) (hkb : base.StaysIn s.heap) (hen : base.get? e = none)
    (h : ∀ h', Heap.LeftW base (env :: outer) e cls a0 s.heap h' → Q () { s with heap := h' }) : wpAny M A (leaving env (.ref e)) Q E s := by
  by_cases z : x = rawInt L
  · subst z
    unfold leaving
    refine wpAny_bind (wpAny_noteFrame_againW hf ht ?_)
    exact wpAny_landsW (L := L) ⟨hkb, hen, hl, ht⟩ fun h' k1 k2 => h h' ⟨k1.1, k1.2.2.1, k1.2.2.2, k2⟩
  · obtain ⟨oe, vs, T, oT, ts, he, ⟨hc, h0⟩, hd, h1, hnT, hTe, hT, hdT, h3⟩ := ht
    subst hc
    unfold leaving noteFrame
    simp only [hf]
    refine wpAny_bind (wpAny_bind (wpAny_field he hd h1 ?_))
    rw [if_pos (show (Value.ref T != Value.none) = true by simp)]
    refine wpAny_bind (wpAny_field hT hdT h3 ?_)
    rw [if_neg (show ¬ ((x == rawInt L) = true) by simpa using z)]
    refine wpAny_bind (wpAny_setField hT hdT (Array.getElem?_eq_some_iff.mp h3).1 ?_)
    have oth : ∀ b, b ≠ T → (s.heap.update T (Obj.mapFields (·.setIfInBounds 3 Value.none))).get? b = s.heap.get? b := fun b hb => Heap.get?_update_other _ _ (Ne.symm hb)
    have nf : ∀ b o, s.heap.get? b = some o → (∀ vs, o.data ≠ .fields vs) → b ≠ T := fun b o hb hn q => by
      subst q
      rw [hT] at hb; cases hb
      exact hn ts hdT
    refine wpAny_newEntryW hfr (hl.of_keeps fun b o hb hn => ⟨o, (oth b (nf b o hb hn)).trans hb, rfl⟩) hf ((oth e (Ne.symm hTe)).trans he) (fun b o hb => (oth b fun q => by rw [q, hnT] at hb; cases hb).trans (hkb b o hb)) hen hd (Array.getElem?_eq_some_iff.mp h1).1 h0 fun h' ⟨x1, x2, x3, x4⟩ => ?_
    exact h h' ⟨x1, x2, x3, fun b o hb hn => x4 b o ((oth b (nf b o hb hn)).trans hb) hn⟩
/-- an exception that was made behind X's entry, its newest entry in any state -/
structure Air (X : Cx) (H : Hp) (h : Heap) (e : Addr) (cls : Value) : Prop where
  be : X.base.get? e = none
  se : X.s₀.heap.get? e = none
  fe : H e = none
  tr : ∃ oe vs T oT ts x, h.get? e = some oe ∧ oe.cls = cls ∧ oe.data = .fields vs ∧ vs[1]? = some (.ref T) ∧ T ≠ e ∧ h.get? T = some oT ∧ oT.data = .fields ts ∧ ts[3]? = some x ∧ X.base.get? T = none ∧ X.s₀.heap.get? T = none ∧ H T = none
section
variable {X : Cx} {pins : List (Addr × Obj)} {σ : St} {H : Hp} {s : Shared} {e : Addr} {cls : Value}
theorem lv_air {Q : Unit → Shared → Prop} {E : Value → Shared → Prop} (I : Inv X pins σ H s) (hst : X.stack = X.env :: X.outer) (hf : X.env.frame = some X.env.locals) (hex : X.ex = []) (a : Air X H s.heap e cls)
    (hQ : ∀ h', Un X.fs [] X.H₀ H X.s₀.heap h' → HOk X.prog X.w H h' → Fly X.base X.outer H X.s₀.heap h' e cls → Q () { s with heap := h' }) :
    wpAny (model X.prog X.w) X.A (leaving X.env (.ref e)) Q E s := by
  obtain ⟨y3, y4, y5, oe, ws, T, oT, ts, x, t1, t2, t3, t4, t6, t7, t8, t9, t10, t11, t12⟩ := a
  have hfs := I.stack
  rw [hst] at hfs
  have hfr : X.A.frames = some (X.env :: X.outer) := by rw [← hst]; exact I.ok.frames
  have fbase : ∀ b ∈ frs (X.env :: X.outer), X.base.get? b = none := fun b hb => (hfs.mem hb).1
  have fdat : ∀ b ∈ frs (X.env :: X.outer), ∃ o, s.heap.get? b = some o ∧ ∀ vs, o.data ≠ .fields vs := fun b hb => (hfs.mem hb).2
  have funt : ∀ b ∈ frs (X.env :: X.outer), H b = none := fun b hb => I.stkFree b (by rw [hst]; exact hb)
  have bget : ∀ b o, b ∉ e :: T :: frs (X.env :: X.outer) → s.heap.get? b = some o → (PySem.W.hideAll s.heap (e :: T :: frs (X.env :: X.outer))).get? b = some o := fun b o n q => PySem.W.hideAll_get _ q n
  have bof : ∀ b o, (PySem.W.hideAll s.heap (e :: T :: frs (X.env :: X.outer))).get? b = some o → s.heap.get? b = some o := fun b o q => PySem.W.of_hideAll _ q
  have bno : ∀ b ∈ e :: T :: frs (X.env :: X.outer), (PySem.W.hideAll s.heap (e :: T :: frs (X.env :: X.outer))).get? b = none := fun b hb => PySem.W.hideAll_none _ hb
  have sz : 1 < ws.size := (Array.getElem?_eq_some_iff.mp t4).1
  refine leaving_any (base := PySem.W.hideAll s.heap (e :: T :: frs (X.env :: X.outer))) (cls := cls) (a0 := ws[0]) (x := x) hfr (frames_over hfs fun b hb => bno b (by simp [hb])) hf
    ⟨oe, ws, T, oT, ts, t1, ⟨t2, by simp⟩, t3, t4, bno T (by simp), t6, t7, t8, t9⟩ (fun b o q => bof b o q) (bno e (by simp)) fun h' hL => ?_
  obtain ⟨k1, k2, k3, k4⟩ := hL
  have neL : ∀ b o, X.s₀.heap.get? b = some o → b ≠ X.env.locals := fun b o q => Nat.ne_of_lt (Nat.lt_of_lt_of_le (Heap.lt_size q) I.ok.above)
  have inS : ∀ b, b ∈ frs (X.env :: X.outer) → b = X.env.locals ∨ b ∈ X.fs := fun b hb => by
    rcases List.mem_cons.mp (I.stkSub b (by rw [hst]; exact hb)) with z | z
    · exact .inl z
    · exact .inr z
  have keep : ∀ b o, b ∉ frs (X.env :: X.outer) → b ≠ e → b ≠ T → s.heap.get? b = some o → h'.get? b = some o := fun b o n n1 n2 q => k1 b o (bget b o (by simp [n, n1, n2]) q)
  have slot : ∀ b o, b ∈ frs (X.env :: X.outer) → s.heap.get? b = some o → ∃ sl, h'.get? b = some { o with slots := sl } := fun b o hb q => by
    obtain ⟨o', q', nf⟩ := fdat b hb
    rw [q] at q'; cases q'
    exact k4 b o q nf
  have old : ∀ b o, X.s₀.heap.get? b = some o → b ≠ e ∧ b ≠ T := fun b o q => ⟨fun z => (by rw [z, y4] at q; cases q), fun z => (by rw [z, t11] at q; cases q)⟩
  have trk : ∀ b o, H b = some o → b ∉ frs (X.env :: X.outer) ∧ b ≠ e ∧ b ≠ T := fun b o q => ⟨fun hb => (by rw [funt b hb] at q; cases q), fun z => (by rw [z, y5] at q; cases q), fun z => (by rw [z, t12] at q; cases q)⟩
  have hx0 : ∀ b, b ∉ X.ex := fun b => by rw [hex]; simp
  refine hQ h' ⟨fun b o q n hb _ => ?_, fun b o q n hb _ => ?_, fun b o q n _ => ?_, fun b o q _ => ?_, fun b xs q => I.base.tups b xs q, fun b o x q => I.base.frzs b o x q, fun b ps q => I.base.tbls b ps q⟩ (fun b o q => ?_) ⟨fun b o q => ?_, ?_, y3, y4, y5, ?_⟩
  · have nf : b ∉ frs (X.env :: X.outer) := fun z => by
      rcases inS b z with z | z
      · exact neL b o q z
      · exact hb z
    exact keep b o nf (old b o q).1 (old b o q).2 (I.base.keep b o q n hb (hx0 b))
  · obtain ⟨sl, q1⟩ := I.base.slot b o q n hb (hx0 b)
    obtain ⟨sl', q3⟩ := slot b _ (mem_frs_tail hf hb) q1
    exact ⟨sl', q3⟩
  · exact I.base.free b o q n (hx0 b)
  · obtain ⟨o', q1⟩ := I.base.there b o q (hx0 b)
    by_cases hb : b ∈ frs (X.env :: X.outer)
    · obtain ⟨sl, q3⟩ := slot b o' hb q1
      exact ⟨_, q3⟩
    · exact ⟨_, keep b o' hb (old b o q).1 (old b o q).2 q1⟩
  · exact (I.hok b o q).stay (fun c v hc r => by
      have z : c ∉ frs (X.env :: X.outer) ∧ c ≠ e ∧ c ≠ T := by
        rcases hc with rfl | hc
        · exact trk _ _ q
        · exact trk _ _ hc
      exact keep c v z.1 z.2.1 z.2.2 r) (fun _ z => z) fun _ _ z => z
  · exact keep b o (fun z => by rw [fbase b z] at q; cases q) (fun z => by rw [z, y3] at q; cases q) (fun z => by rw [z, t10] at q; cases q) (I.bk b o q)
  · obtain ⟨_, _, k2⟩ := frames_over k2 (base' := X.base) fun b hb => fbase b hb
    exact k2
  · obtain ⟨oe', ws', T', oT', ts', r1, r2, r3, r4, r5, r6, r7, r8, r9⟩ := k3
    by_cases hT : T' = T
    · subst hT
      exact ⟨oe', ws', T', oT', ts', r1, r2.1, r3, r4, r6, r7, r8, r9, t10, t11, t12⟩
    · have tf : T' ∉ frs (X.env :: X.outer) := fun z => by
        obtain ⟨_, o', q', nf⟩ := k2.mem z
        rw [r7] at q'; cases q'
        exact nf ts' r8
      have tn : s.heap.get? T' = none := by
        cases r : s.heap.get? T' with
        | none => rfl
        | some o => rw [bget T' o (by simp [tf, r6, hT]) r] at r5; cases r5
      refine ⟨oe', ws', T', oT', ts', r1, r2.1, r3, r4, r6, r7, r8, r9, ?_, ?_, ?_⟩
      · cases r : X.base.get? T' with
        | none => rfl
        | some o => have := I.bk T' o r; rw [tn] at this; cases this
      · cases r : X.s₀.heap.get? T' with
        | none => rfl
        | some o =>
          obtain ⟨o', z⟩ := I.base.there T' o r (hx0 _)
          rw [tn] at z; cases z
      · cases r : H T' with
        | none => rfl
        | some o => obtain ⟨ob, z⟩ := (I.hok T' o r).here; rw [tn] at z; cases z
end
/-- an exception in the air may leave X -/
def AirPass (X : Cx) (E : XK) : Prop := ∀ (pins : List (Addr × Obj)) (σ : St) (H : Hp) (s : Shared) (e C : Addr), Inv X pins σ H s → Air X H s.heap e (.ref C) → E (.ref C) none H → X.xe (.ref e) s
theorem airE {P : Program} {w : World} {K : PySem.W.Frag} {mg : Str → Option Value} {base : Heap} {N : List Str} {qual : Str} {scope : Scope} {f : Addr} {cd : Value} {A : Around} {outer : List Env} {s : Shared} {H : Hp} {E : XK} :
    AirPass (cxOf (CXe P w base) P w K mg base N qual scope f cd A outer s H E) E := by
  intro pins σ H1 s1 e C I a q
  exact lv_air I rfl rfl rfl a fun h' u' hok' fl' => ⟨e, C, H1, rfl, I.os, I.bare, u', hok', fl', q⟩
end L2

namespace L2
open PySem PySem.Spec PyProof.Rows
section
variable {prog : Program} {w : World} {A : Around} {R : Result → Shared → Prop} {s : Shared}
theorem comp_loopX {elt target iter : Expr} {scope : Scope} {pos : Pos} {it acc : Value} {env : Env} {EE : Value → Shared → Prop} (hE : ∀ e s', EE e s' → notedBy (model prog w) A env (fun x s' => R (.error x) s') e s') (I : Nat → Shared → Prop)
    (turn : ∀ n s, I n s → wpAny (model prog w) A (pyNext it) (fun r s₁ => match r with
      | none => R (.ok .next) s₁
      | some v => wpAny (model prog w) A (letOwnedTupleGo target it v) (fun _ s₂ => wpAny (model prog w) A (assign target env v) (fun _ s₃ => wpAny (model prog w) A (eval elt env) (fun x s₄ =>
          wpAny (model prog w) A (call (.builtin "list.append") [acc, x]) (fun _ s₅ => ∃ m, m < n ∧ I m s₅) EE s₄) EE s₃) EE s₂) EE s₁) EE s)
    (n : Nat) (h : I n s) : codeAny (model prog w) A (.compLoop (.ListComp elt [⟨target, iter, [], 0⟩] scope pos) 0 it acc env) R s := by
  refine codeAny_loop rfl I (fun n s hI => ?_) n h
  show wpAny _ _ ((compTurn (.ListComp elt [⟨target, iter, [], 0⟩] scope pos) 0 it acc env).onRaise (fun x => do noteFrame x env; theTreesLotGoes x)) _ _ s
  refine wpAny_noted ?_
  rw [compTurn_list1]
  refine wpAny_bind (wpAny_standAt (wpAny_bind (wpAny_mono (turn n s hI) (fun r s₁ h₁ => ?_) fun _ _ z => hE _ _ z)))
  cases r with
  | none => exact wpAny_pure h₁
  | some v =>
    refine wpAny_bind (wpAny_mono h₁ (fun _ s₂ h₂ => ?_) fun _ _ z => hE _ _ z)
    refine wpAny_bind (wpAny_mono h₂ (fun _ s₃ h₃ => ?_) fun _ _ z => hE _ _ z)
    refine wpAny_bind (wpAny_bind (wpAny_mono h₃ (fun x s₄ h₄ => ?_) fun _ _ z => hE _ _ z))
    exact wpAny_bind (wpAny_mono h₄ (fun _ s₅ h₅ => wpAny_pure (wpAny_pure ⟨rfl, h₅⟩)) fun _ _ z => hE _ _ z)
end
theorem noteFrame_frame {e : Value} {env env' : Env} (h : env.frame = env'.frame) : noteFrame e env = noteFrame e env' := by
  unfold noteFrame PySem.frameOf
  rw [h]
/-- the block of a comprehension whose element may raise -/
abbrev Cx.compX (X : Cx) (scope : Scope) (cl : List (Str × Addr)) (NY : List Str) (s3 : Shared) (H3 : Hp) (fp : List Addr) (E : XK) : Cx :=
  (X.comp scope cl NY s3 H3 fp).wish fun e s' => ∃ (pins : List (Addr × Obj)) (σ : St) (H : Hp) (s : Shared), Inv (X.comp scope cl NY s3 H3 fp) pins σ H s ∧ CXe X.prog X.w X.base X.stack H s E e s'
section
variable {X : Cx} {pins : List (Addr × Obj)} {σ : St} {H H' : Hp} {s s' : Shared} {e C T : Addr}
theorem mid_invX {B h : Heap} (I : Inv X pins σ H s)
    (u : Un (frs X.stack) [] H H' s.heap s'.heap) (hok : HOk X.prog X.w H' s'.heap) (bare : AllBare s'.gens) (os : s'.os = s.os) (fl : Fly X.base X.stack H' s.heap s'.heap e (.ref C))
    (nT : s.heap.get? T = none) (fT : H' T = none) (hB : ∀ b o, b ∉ e :: T :: frs X.stack → s'.heap.get? b = some o → B.get? b = some o) (hfl : B.StaysIn h) (hsl : s'.heap.UpToSlots h) :
    Inv X pins σ H' { s' with heap := h } := by
  obtain ⟨y1, y2, y3, y4, y5, _⟩ := fl
  have fdat : ∀ b ∈ frs X.stack, ∃ o, s'.heap.get? b = some o ∧ ∀ vs, o.data ≠ .fields vs := fun b hb => (y2.mem hb).2
  have keep : ∀ b o, b ∉ frs X.stack → b ≠ e → b ≠ T → s'.heap.get? b = some o → h.get? b = some o := fun b o n n1 n2 q => hfl b o (hB b o (by simp [n, n1, n2]) q)
  have slot : ∀ b o, b ∈ frs X.stack → s'.heap.get? b = some o → ∃ sl, h.get? b = some { o with slots := sl } := fun b o hb q => by
    obtain ⟨o', q', nf⟩ := fdat b hb
    rw [q] at q'; cases q'
    exact hsl b o q nf
  have old : ∀ b o, s.heap.get? b = some o → b ≠ e ∧ b ≠ T := fun b o q => ⟨fun z => (by rw [z, y4] at q; cases q), fun z => (by rw [z, nT] at q; cases q)⟩
  have funt : ∀ b ∈ frs X.stack, H' b = none := fun b hb => by
    obtain ⟨_, o, ho, _⟩ := I.stack.mem hb
    exact u.free b o ho (I.stkFree b hb) (by simp)
  have trk : ∀ b o, H' b = some o → b ∉ frs X.stack ∧ b ≠ e ∧ b ≠ T := fun b o q => ⟨fun hb => (by rw [funt b hb] at q; cases q), fun z => (by rw [z, y5] at q; cases q), fun z => (by rw [z, fT] at q; cases q)⟩
  refine I.call' (s' := { s' with heap := h }) (ch := []) os ⟨fun b o q n hb _ => ?_, fun b o q n hb _ => ?_, u.free, fun b o q _ => ?_, u.tups, u.frzs, u.tbls⟩ (fun b o q => ?_) bare (fun b z => absurd z (by simp))
  · exact keep b o hb (old b o q).1 (old b o q).2 (u.keep b o q n hb (by simp))
  · obtain ⟨sl, q1⟩ := u.slot b o q n hb (by simp)
    obtain ⟨sl', q2⟩ := slot b _ hb q1
    exact ⟨sl', q2⟩
  · obtain ⟨o', q1⟩ := u.there b o q (by simp)
    by_cases hb : b ∈ frs X.stack
    · obtain ⟨sl, q2⟩ := slot b o' hb q1
      exact ⟨_, q2⟩
    · exact ⟨_, keep b o' hb (old b o q).1 (old b o q).2 q1⟩
  · exact (hok b o q).stay (fun c v hc r => by
      have z : c ∉ frs X.stack ∧ c ≠ e ∧ c ≠ T := by
        rcases hc with rfl | hc
        · exact trk _ _ q
        · exact trk _ _ hc
      exact keep c v z.1 z.2.1 z.2.2 r) (fun _ z => z) fun _ _ z => z
end
section
variable {X : Cx} {tg : Expr}
/-- a callee's exception leaves the block, and then X -/
theorem comp_air {pins pY : List (Addr × Obj)} {σ σY : St} {H3 H : Hp} {s3 s s' : Shared} {scope : Scope} {cl : List (Str × Addr)} {NY : List Str} {fp : List Addr} {E : XK} {ev : Value} {use : Option (Value → Sem Unit)} {R : Value → Shared → Prop} {acc : Value}
    (I3 : Inv X pins σ H3 s3) (hfp : ∀ b ∈ fp, FpOk X pins H3 b) (hst : X.stack = X.env :: X.outer) (hf : X.env.frame = some X.env.locals) (hex : X.ex = []) (hx : AirPass X E)
    (J : Inv (X.comp scope cl NY s3 H3 fp) pY σY H s) (h : CXe X.prog X.w X.base X.stack H s E ev s') :
    notedBy (model X.prog X.w) X.A (compEnvC scope cl s3.heap.objs.size X.env) (fun x s' => compPost (model X.prog X.w) X.A X.xe use R acc s3.heap.objs.size (.error x) s') ev s' := by
  obtain ⟨e, C, H', rfl, os, bare, u, hok, fl, q⟩ := h
  obtain ⟨y1, y2, y3, y4, y5, oe, ws, T, oT, ts, t1, t2, t3, t4, t6, t7, t8, t9, t10, t11, t12⟩ := id fl
  have hfr : X.A.frames = some (X.env :: X.outer) := by rw [← hst]; exact I3.ok.frames
  have bno : ∀ b ∈ e :: T :: frs (X.env :: X.outer), (PySem.W.hideAll s'.heap (e :: T :: frs (X.env :: X.outer))).get? b = none := fun b hb => PySem.W.hideAll_none _ hb
  have bof : ∀ b o, (PySem.W.hideAll s'.heap (e :: T :: frs (X.env :: X.outer))).get? b = some o → s'.heap.get? b = some o := fun b o q => PySem.W.of_hideAll _ q
  have sz : 1 < ws.size := (Array.getElem?_eq_some_iff.mp t4).1
  have fw : Heap.FlyingW (PySem.W.hideAll s'.heap (e :: T :: frs (X.env :: X.outer))) (X.env :: X.outer) e (.ref C) ws[0] s'.heap :=
    ⟨fun b o q => bof b o q, bno e (by simp), frames_over (hst ▸ y2) (fun b hb => bno b (by simp [hb])), oe, ws, T, oT, ts, t1, ⟨t2, by simp⟩, t3, t4, bno T (by simp), t6, t7, t8, t9⟩
  show wpAny _ _ (noteFrame (.ref e) (compEnvC scope cl s3.heap.objs.size X.env)) _ _ _
  rw [noteFrame_frame (env := compEnvC scope cl s3.heap.objs.size X.env) (env' := X.env) rfl]
  refine wpAny_looks_onW hfr hf fw fun h1 k1 u1 => ?_
  -- the block's own state behind it
  have J1 : Inv (X.comp scope cl NY s3 H3 fp) pY σY H' { s' with heap := h1 } := mid_invX (T := T) J u hok bare os fl t11 t12 (fun b o hb r => PySem.W.hideAll_get _ r (by rw [← hst]; exact hb)) k1.1 u1
  obtain ⟨m, hm, _⟩ := J1.loc
  obtain ⟨g1, g2, g3, oe', ws', T', oT', ts', r1, ⟨r2, r2'⟩, r3, r4, r5, r6, r7, r8, r9⟩ := k1
  refine (show compPost (model X.prog X.w) X.A X.xe use R acc s3.heap.objs.size (.error (.ref e)) { s' with heap := h1 } from ?_)
  suffices fin : ∃ m, h1.Ns s3.heap.objs.size m ∧ ∀ h', Heap.SameBut s3.heap.objs.size h1 h' → ∀ cenv : Env, cenv.locals = s3.heap.objs.size → wpAny (model X.prog X.w) X.A (PySem.passOn "comprehension.variables-let-go" (.ref e) cenv : Sem Value) (fun _ _ => False) X.xe { s' with heap := h' } by
    cases use <;> exact fin
  refine ⟨m, hm, fun h' hs cenv _ => ?_⟩
  have nC : ∀ b o ws, h1.get? b = some o → o.data = .fields ws → b ≠ s3.heap.objs.size := fun b o ws z zd => by
    rintro rfl
    obtain ⟨o', es, ep, z', zd', _⟩ := (show h1.Ns s3.heap.objs.size m from hm)
    rw [z] at z'; cases z'
    rw [zd] at zd'; cases zd'
  have he := (hs.2 e (nC e oe' ws' r1 r3)).trans r1
  have hT := (hs.2 T' (nC T' oT' ts' r7 r8)).trans r7
  have noT : T' = T ∨ s'.heap.get? T' = none := by
    by_cases z : T' = T
    · exact .inl z
    · right
      have tf : T' ∉ frs (X.env :: X.outer) := fun z => by
        obtain ⟨_, o', q', nf⟩ := g3.mem z
        rw [r7] at q'; cases q'
        exact nf ts' r8
      cases r : s'.heap.get? T' with
      | none => rfl
      | some o => rw [PySem.W.hideAll_get _ r (by simp [tf, r6, z])] at r5; cases r5
  have TN : s.heap.get? T' = none ∧ X.base.get? T' = none ∧ H' T' = none := by
    rcases noT with rfl | z
    · exact ⟨t11, t10, t12⟩
    · refine ⟨?_, ?_, ?_⟩
      · cases r : s.heap.get? T' with
        | none => rfl
        | some o =>
          obtain ⟨o', z'⟩ := u.there T' o r (by simp)
          rw [z] at z'; cases z'
      · cases r : X.base.get? T' with
        | none => rfl
        | some o => have := y1 T' o r; rw [z] at this; cases this
      · cases r : H' T' with
        | none => rfl
        | some o => obtain ⟨ob, z'⟩ := (hok T' o r).here; rw [z] at z'; cases z'
  have old3 : ∀ b, s.heap.get? b = none → X.s₀.heap.get? b = none := fun b z => by
    cases r : X.s₀.heap.get? b with
    | none => rfl
    | some o =>
      exfalso
      by_cases hb : b ∈ fp
      · rcases (hfp b hb).2.2.2.1 with y | y
        · rw [hex] at y; cases y
        · exact absurd (Heap.lt_size r) (Nat.not_lt.mpr y)
      · obtain ⟨o', r'⟩ := I3.base.there b o r (by rw [hex]; simp)
        obtain ⟨o2, r2⟩ := J.base.there b o' r' hb
        rw [r2] at z; cases z
  unfold PySem.passOn
  refine wpAny_bind (wpAny_field he r3 r4 ?_)
  rw [if_neg (show ¬ ((Value.ref T' == Value.none) = true) by simp)]
  have h3sz : 3 < ts'.size := (Array.getElem?_eq_some_iff.mp r9).1
  unfold setFlight
  refine wpAny_bind (wpAny_bind (wpAny_field he r3 r4 ?_))
  rw [if_pos (show (Value.ref T' != Value.none) = true by simp)]
  refine wpAny_setField hT r8 h3sz (wpAny_throw ?_)
  have hTe := r6
  have kT : ∀ b, b ≠ T' → (h'.update T' (Obj.mapFields (·.setIfInBounds 3 (cenv.frame.elim Value.none fun f => rawInt f)))).get? b = h'.get? b := fun b hb => Heap.get?_update_other _ _ (Ne.symm hb)
  have k1T : ∀ b, b ≠ T' → (h1.update T' (Obj.mapFields (·.setIfInBounds 3 (cenv.frame.elim Value.none fun f => rawInt f)))).get? b = h1.get? b := fun b hb => Heap.get?_update_other _ _ (Ne.symm hb)
  have J2 : Inv (X.comp scope cl NY s3 H3 fp) pY σY H' { s' with heap := h1.update T' (Obj.mapFields (·.setIfInBounds 3 (cenv.frame.elim Value.none fun f => rawInt f))) } := by
    refine mid_invX (B := PySem.W.hideAll s'.heap (e :: T :: frs (X.env :: X.outer))) (T := T) J u hok bare os fl t11 t12 (fun b o hb r => PySem.W.hideAll_get _ r (by rw [← hst]; exact hb)) (fun b o z => ?_) (fun b o z zn => ?_)
    · exact (k1T b fun y => by rw [y, r5] at z; cases z).trans (g1 b o z)
    · obtain ⟨sl, z'⟩ := u1 b o z zn
      refine ⟨sl, (k1T b fun y => ?_).trans z'⟩
      subst y
      rw [r7] at z'; cases z'
      exact zn ts' r8
  have I4 : Inv X pins σ H' { s' with heap := h'.update T' (Obj.mapFields (·.setIfInBounds 3 (cenv.frame.elim Value.none fun f => rawInt f))) } := by
    refine comp_back (s' := { s' with heap := h1.update T' (Obj.mapFields (·.setIfInBounds 3 (cenv.frame.elim Value.none fun f => rawInt f))) }) I3 hfp J2 ⟨?_, fun b nb => ?_⟩
    · rw [Heap.size_update, Heap.size_update]; exact hs.1
    · by_cases y : b = T'
      · subst y
        rw [Heap.get?_update_self _ hT (Obj.isFreed_of_fields (Obj.data_mapFields r8 _)), Heap.get?_update_self _ r7 (Obj.isFreed_of_fields (Obj.data_mapFields r8 _))]
      · exact (kT b y).trans ((hs.2 b nb).trans (k1T b y).symm)
  refine hx pins σ H' _ e C I4 ⟨y3, old3 e y4, y5, oe', ws', T', _, _, (cenv.frame.elim Value.none fun f => rawInt f), (kT e (Ne.symm hTe)).trans he, r2, r3, r4, hTe, Heap.get?_update_self _ hT (Obj.isFreed_of_fields (Obj.data_mapFields r8 _)), Obj.data_mapFields r8 _, ?_, TN.2.1, old3 T' TN.1, TN.2.2⟩ q
  rw [Array.getElem?_setIfInBounds_self_of_lt h3sz]
theorem comp_coreX {iter elt : Expr} {scope : Scope} {pos pos' : Pos} {cl : List (Str × Addr)} {NY : List Str} {wi : TI} {g : TG} {te : TE} {σ0 : St → Hp → St → Prop} {E : XK} (hc : X.calm = true) (hst : X.stack = X.env :: X.outer) (hf : X.env.frame = some X.env.locals) (hex : X.ex = []) (hx : AirPass X E) (S : Sees X scope cl) (hi : PI X tg iter wi)
    (hY : ∀ (s3 : Shared) (H3 : Hp) (fp : List Addr), PG (X.compX scope cl NY s3 H3 fp E) tg g ∧ PE (X.compX scope cl NY s3 H3 fp E) elt te)
    (h0 : ∀ (pins : List (Addr × Obj)) (σ : St) (H : Hp) (s3 : Shared) (σY : St), Inv X pins σ H s3 → σ0 σ H σY → σY.length = NY.length ∧ ∀ (i : Nat) (x : Str) (v : V), NY[i]? = some x → σY[i]? = some (some v) →
      ∃ c u, (((compEnvC scope cl 0 X.env).kindOf x = some .cell ∨ (compEnvC scope cl 0 X.env).kindOf x = some .free)) ∧ cl.lookup x = some c ∧ RelV v u ∧ s3.heap.IsCell c (some u))
    (hs : ∀ x, foldedSetIterable iter X.env x = pure x) {use : Option (Value → Sem Unit)} {R : Value → Shared → Prop} {pins : List (Addr × Obj)} {s : Shared} {σ : St} {H : Hp} {Q : VK} (I : Inv X pins σ H s) (h : tComp wi g te σ0 σ H Q)
    (fin : ∀ (C D : Addr) (H5 : Hp) (s6 : Shared), CompEnd X pins σ H5 s6 C → Q (.ref D) H5 → compPost (model X.prog X.w) X.A X.xe use R (.ref D) C (.ok .next) s6) :
    wpAny (model X.prog X.w) X.A (comprehension (.ListComp elt [⟨tg, iter, [], 0⟩] scope pos) scope X.env pos' (newList []) (firstAsync [⟨tg, iter, [], 0⟩]) (firstIter [⟨tg, iter, [], 0⟩] X.env) use) R X.xe s := by
  refine wpAny_comprehension_free rfl hs S.clos S.kind S.names (thn (hi pins s σ H _ I h) fun v s1 h1 => thn h1 fun itv s2 h2 => ?_)
  obtain ⟨it, fp, tn, J, H2, e, I2, T, st2, f2, σY, hσ, hW⟩ := h2
  subst e
  refine wpAny_newObj_type ?_
  have I3 : Inv X pins σ (upd H2 s2.heap.objs.size (.lst [])) { s2 with heap := s2.heap.push { cls := .type "list", data := .seq ([] : List Value).toArray } } := I2.lnew (t' := s2.toks) (its := []) .nil (Nat.zero_le _)
  obtain ⟨W, ⟨m0, w0⟩, turn⟩ := hW s2.heap.objs.size (I2.hok.fresh (Nat.le_refl _))
  have ob2 := T.obj _ _ st2
  have hfp : ∀ b ∈ fp, FpOk X pins (upd H2 s2.heap.objs.size (.lst [])) b := fun b hb => by
    obtain ⟨o, q, _⟩ := ob2 b hb
    exact ⟨by rw [upd_ne (Nat.ne_of_lt (Heap.lt_size q))]; exact (f2 b hb).1, (f2 b hb).2⟩
  have hob : ∀ b ∈ fp, ∃ o, (s2.heap.push { cls := .type "list", data := .seq ([] : List Value).toArray }).get? b = some o := fun b hb => by
    obtain ⟨o, q, _⟩ := ob2 b hb
    exact ⟨o, Heap.get?_push_of_some _ q⟩
  refine wpAny_newFunctionEnv S.nocell (fun y hy => absurd hy (by simp)) (fun h1 hn1 hs1 => ?_) S.kind
  obtain ⟨hl, hY0⟩ := h0 pins σ H2 s2 σY I2 hσ
  have k23 : ∀ b o, s2.heap.get? b = some o → (s2.heap.push { cls := .type "list", data := .seq ([] : List Value).toArray }).get? b = some o := fun b o q => Heap.get?_push_of_some _ q
  have k34 : ∀ b o, (s2.heap.push { cls := .type "list", data := .seq ([] : List Value).toArray }).get? b = some o → h1.get? b = some o := fun b o q => (hs1.2 b (Nat.ne_of_lt (Heap.lt_size q))).trans (Heap.get?_push_of_some _ q)
  have I4 := comp_inv (scope := scope) (cl := cl) (NY := NY) (fp := fp) (h1 := h1) (t := s2.toks) (σY := σY) I3 S hfp hob hn1 k34 hl fun i x v e1 e2 => by
    obtain ⟨c, u, k, q, r, o, z1, z2⟩ := hY0 i x v e1 e2
    exact ⟨c, u, k, q, r, o, k23 _ _ z1, z2⟩
  have st4 : tn 0 h1 := T.keep _ _ _ st2 fun b hb o q => k34 _ _ (k23 _ _ q)
  have fr4 : ∀ b ∈ fp, (upd H2 s2.heap.objs.size (.lst [])) b = none := fun b hb => (hfp b hb).1
  obtain ⟨S3, hS3⟩ : ∃ S3 : Shared, S3 = { s2 with heap := s2.heap.push { cls := .type "list", data := .seq ([] : List Value).toArray } } := ⟨_, rfl⟩
  rw [← hS3] at I3 I4
  have eC : (s2.heap.push { cls := .type "list", data := .seq ([] : List Value).toArray }).objs.size = S3.heap.objs.size := by rw [hS3]
  rw [eC]
  obtain ⟨hg, he⟩ := hY S3 (upd H2 s2.heap.objs.size (.lst [])) fp
  have okY := I4.ok
  have statY : ∀ {H' : Hp}, (∀ b ∈ fp, H' b = none) → ∀ b ∈ fp, FpOk (X.compX scope cl NY S3 (upd H2 s2.heap.objs.size (.lst [])) fp E) [] H' b :=
    fun hn b hb => ⟨hn b hb, (okY.exf b hb).1, okY.exfs b hb, .inl hb, (okY.exf b hb).2, fun p hp => absurd hp (by simp)⟩
  have loop : codeAny (model X.prog X.w) X.A (.compLoop (.ListComp elt [⟨tg, iter, [], 0⟩] scope pos) 0 (.ref it) (.ref s2.heap.objs.size) (compEnvC scope cl S3.heap.objs.size X.env))
      (compPost (model X.prog X.w) X.A X.xe use R (.ref s2.heap.objs.size) S3.heap.objs.size) { s2 with heap := h1, toks := s2.toks } := by
    refine comp_loopX (EE := (X.compX scope cl NY S3 (upd H2 s2.heap.objs.size (.lst [])) fp E).xe) (fun e s' ⟨pY, σ5, H5, s5, J5, c5⟩ => comp_air I3 hfp hst hf hex hx J5 c5)
      (fun n s' => ∃ i σ' H', Inv (X.compX scope cl NY S3 (upd H2 s2.heap.objs.size (.lst [])) fp E) [] σ' H' s' ∧ tn i s'.heap ∧ (∀ b ∈ fp, H' b = none) ∧ W i n σ' H') ?_ m0 ⟨0, σY, _, (show Inv (X.compX scope cl NY S3 (upd H2 s2.heap.objs.size (.lst [])) fp E) [] σY (upd H2 s2.heap.objs.size (.lst [])) { s2 with heap := h1, toks := s2.toks } by rw [hS3] at I4 ⊢; exact I4.wish _), st4, fr4, w0⟩
    rintro n s5 ⟨i, σ5, H5, I5, st5, fr5, w5⟩
    rcases turn i n σ5 H5 w5 with ⟨stop, q⟩ | ⟨go, N, hN, step⟩
    · refine thn (T.done (X.compX scope cl NY S3 (upd H2 s2.heap.objs.size (.lst [])) fp E) rfl rfl rfl hc i [] s5 σ5 H5 _ I5 (statY fr5) st5 stop) fun r s6 ⟨hr, I6⟩ => ?_
      subst hr
      have I6 := I6.unwish
      obtain ⟨m, hm, _⟩ := I6.loc
      refine fin _ _ H5 s6 ⟨⟨m, hm⟩, I6.free, Ne.symm (Nat.ne_of_lt I3.lt), I3.sz, fun x c z => ?_, fun p hp => ?_, fun h' hs' => comp_back I3 hfp I6 hs'⟩ q
      · obtain ⟨_, o, z1, _⟩ := I3.cell x c z
        exact Nat.ne_of_lt (Heap.lt_size z1)
      · exact Nat.ne_of_lt (Heap.lt_size (I3.pin p hp).1)
    · refine thn (T.item (X.compX scope cl NY S3 (upd H2 s2.heap.objs.size (.lst [])) fp E) rfl rfl rfl hc i [] s5 σ5 H5 _ I5 (statY fr5) st5 go) fun r s6 ⟨u, hr, h6⟩ => ?_
      subst hr
      refine thn h6 fun _ s7 ⟨x, H7, I7, r7, y7, st7, fr7⟩ => ?_
      have I7' := I7.pinned (statY fr7) (T.obj _ _ st7)
      refine thn (hg _ s7 σ5 H7 x u _ I7' r7 (step x H7 y7)) fun _ s8 ⟨σ8, H8, I8, q8⟩ => ?_
      refine thn (he _ s8 σ8 H8 _ I8 q8) fun z s9 ⟨v9, H9, I9, r9, xs, hx9, hz9, n9⟩ => ?_
      refine thn (mt_append _ s9 σ8 H9 (.ref s2.heap.objs.size) [v9] (.ref s2.heap.objs.size) [z] (fun _ H' => H' = upd H9 s2.heap.objs.size (.lst (xs ++ [v9]))) I9 rfl (.cons r9 .nil) ⟨s2.heap.objs.size, xs, v9, rfl, rfl, hx9, hz9, rfl⟩) fun y s10 ⟨v10, H10, I10, _, e10⟩ => ?_
      subst e10
      obtain ⟨m', hm, w10⟩ := hN _ _ n9
      refine ⟨m', hm, i + 1, σ8, _, I10.unpinned, T.keep _ _ _ st7 fun b hb o q => (I10.pin (b, o) (List.mem_append_right _ (List.mem_append_right _ (mem_pinsAt hb q)))).1, fun b hb => ?_, w10⟩
      obtain ⟨o, q, d⟩ := T.obj _ _ st7 b hb
      exact (I10.pin (b, o) (List.mem_append_right _ (List.mem_append_right _ (mem_pinsAt hb q)))).2.1
  exact codeAny_compStart_list loop (T.self _ 0 _ _ _ st4 loop)
/-- y = [e for x in it], e may raise, y a plain local name -/
theorem ps_compX {iter elt : Expr} {scope : Scope} {pos pos' spos : Pos} {wi : TI} {g : TG} {te : TE} {i : Nat} {y : Str} {E : XK} (hst : X.stack = X.env :: X.outer) (hf' : X.env.frame = some X.env.locals) (hex : X.ex = []) (hx' : AirPass X E) (NY : List Str) (cap : List (Option Nat)) (hc : X.calm = true) (hk : seesOk X scope = true) (hcap : capOk X scope NY cap = true) (hi : PI X tg iter wi)
    (hY : ∀ (s3 : Shared) (H3 : Hp) (fp : List Addr), PG (X.compX scope (clOf X.env scope) NY s3 H3 fp E) tg g ∧ PE (X.compX scope (clOf X.env scope) NY s3 H3 fp E) elt te) (hN : X.N.Nodup) (hi' : X.N[i]? = some y) (hx : Loc X.env.scope y)
    (hf : X.fn y = true ∨ X.env.scope.names.lookup y = some .local := by first | exact .inl rfl | exact .inr rfl) (hw : swapsWith (.ListComp elt [⟨tg, iter, [], 0⟩] scope pos) (some (.Name y pos')) spos.line X.env = pure true := by rfl)
    (hs : ∀ x, foldedSetIterable iter X.env x = pure x := by intro _; rfl) : PS X (.Assign [.Name y pos'] (.ListComp elt [⟨tg, iter, [], 0⟩] scope pos) spos) (tAsg (tCompC wi g te cap) (gName i)) := by
  intro pins s σ H D I h
  rw [exec_Assign_Name_used _ _ _ _ hw, arm_evalThenUse_ListComp]
  refine wpAny_bind (wpAny_standAt (wpAny_bind (wpAny_bind (wpAny_mono (comp_coreX (E := E) (σ0 := fun σ _ σY => σY = capt cap σ) (Q := fun v H1 => gName i v σ H1 D.nx) (use := some (assign (.Name y pos') X.env)) (R := fun _ s' => SP X pins D .next s') hc hst hf' hex hx' (sees_of I.ok hk) hi hY (fun pins σ H s3 σY I3 e => by subst e; exact capt_ok I3 (sees_of I3.ok hk) hcap) hs I h fun C L H5 s6 e q => ?_) (fun _ s' z => wpAny_pure (wpAny_pure z)) fun _ _ z => z))))
  obtain ⟨m, hm⟩ := e.ns
  have I6 : Inv X pins σ H5 s6 := e.inv s6.heap ⟨rfl, fun _ _ => rfl⟩
  refine wpAny_assign_Name (store_ok2 I6 hN hi' hx (v := .ref L) rfl (fun s' I' ⟨a, sb, ha⟩ => ?_) hf)
  have ne : C ≠ a := by
    rintro rfl
    rcases ha with z | z
    · exact e.hL z
    · exact e.h2 _ _ z rfl
  refine ⟨m, ?_, fun h' hs' => ?_⟩
  · obtain ⟨o, es, ep, z, r⟩ := hm
    exact ⟨o, es, ep, (sb.2 _ ne).trans z, r⟩
  · exact ⟨_, H5, I'.turned (t' := s'.toks) (it := C) (fun b o nb z => (hs'.2 b nb).trans z) e.hn e.hL (.inr e.h1) e.h2 e.h3, q⟩
end
end L2

namespace L2
open PySem PySem.Spec PyProof.Rows
/-- what stands in a heap beside what stood in B: the objects of L, no two at one address -/
structure Hd (B : Hp) (L : List (Addr × HO)) (H : Hp) : Prop where
  nd : (L.map Prod.fst).Nodup
  nw : ∀ p ∈ L, B p.1 = none
  st : ∀ p ∈ L, H p.1 = some p.2
  sm : Same B H
namespace Hd
variable {B : Hp} {L : List (Addr × HO)} {H H' : Hp} {a b : Addr} {o o' : HO}
theorem base : Hd B [] B := ⟨List.nodup_nil, (fun _ h => nomatch h), (fun _ h => nomatch h), Same.refl B⟩
theorem get (h : Hd B L H) (i : Nat) (e : L[i]? = some (a, o)) : H a = some o := h.st _ (List.mem_of_getElem? e)
theorem same (h : Hd B L H) (s : Same H H') : Hd B L H' := ⟨h.nd, h.nw, fun p m => s _ _ (h.st p m), h.sm.trans s⟩
theorem new (h : Hd B L H) (n : H a = none) : Hd B ((a, o) :: L) (upd H a o) := by
  have ne : ∀ p ∈ L, p.1 ≠ a := fun p m => ne_of_none (h.st p m) n
  refine ⟨List.nodup_cons.mpr ⟨fun m => ?_, h.nd⟩, fun p m => ?_, fun p m => ?_, same_upd h.sm (h.sm.free n)⟩
  · obtain ⟨p, mp, e⟩ := List.mem_map.mp m
    exact ne p mp e
  · rcases List.mem_cons.mp m with rfl | m
    · exact h.sm.free n
    · exact h.nw p m
  · rcases List.mem_cons.mp m with rfl | m
    · exact upd_same
    · rw [upd_ne (ne p m)]; exact h.st p m
theorem fst_set (i : Nat) (e : L[i]? = some (a, o)) : (L.set i (a, o')).map Prod.fst = L.map Prod.fst := by
  rw [List.map_set]
  apply List.ext_getElem?
  intro j
  rw [List.getElem?_set]
  split
  · rename_i q
    subst q
    split
    · rw [List.getElem?_map, e]; rfl
    · rename_i q
      rw [List.getElem?_eq_none (by omega)]
  · rfl
theorem ne (h : Hd B L H) (i j : Nat) (ei : L[i]? = some (a, o)) (ej : L[j]? = some (b, o')) (hij : i ≠ j) : a ≠ b := fun e => by
  subst e
  have h1 : (L.map Prod.fst)[i]? = some a := by rw [List.getElem?_map, ei]; rfl
  have h2 : (L.map Prod.fst)[j]? = some a := by rw [List.getElem?_map, ej]; rfl
  obtain ⟨b1, e1⟩ := List.getElem?_eq_some_iff.mp h1
  obtain ⟨b2, e2⟩ := List.getElem?_eq_some_iff.mp h2
  have key : ∀ (l : List Addr), l.Nodup → ∀ (i j : Nat) (b1 : i < l.length) (b2 : j < l.length), l[i] = l[j] → i = j := by
    intro l hl
    induction l with
    | nil => intro i j b1; cases b1
    | cons x r ih =>
      intro i j b1 b2 q
      have nr := List.nodup_cons.mp hl
      cases i with
      | zero =>
        cases j with
        | zero => rfl
        | succ j => exact absurd (by rw [List.getElem_cons_zero, List.getElem_cons_succ] at q; rw [q]; exact List.getElem_mem _) nr.1
      | succ i =>
        cases j with
        | zero => exact absurd (by rw [List.getElem_cons_zero, List.getElem_cons_succ] at q; rw [← q]; exact List.getElem_mem _) nr.1
        | succ j => rw [List.getElem_cons_succ, List.getElem_cons_succ] at q; rw [ih nr.2 i j _ _ q]
  exact hij (key _ h.nd i j b1 b2 (e1.trans e2.symm))
theorem chg (h : Hd B L H) (i : Nat) (e : L[i]? = some (a, o)) (k : ∀ c u, c ≠ a → H c = some u → H' c = some u) (q : H' a = some o') : Hd B (L.set i (a, o')) H' := by
  have nb : B a = none := h.nw _ (List.mem_of_getElem? e)
  refine ⟨by rw [fst_set i e]; exact h.nd, fun p m => ?_, fun p m => ?_, fun c u z => k c u (ne_of_none z nb) (h.sm c u z)⟩
  · rcases List.mem_or_eq_of_mem_set m with m | rfl
    · exact h.nw p m
    · exact nb
  · obtain ⟨j, lt, ej⟩ := List.getElem_of_mem m
    have ej : (L.set i (a, o'))[j]? = some p := by rw [List.getElem?_eq_getElem lt, ej]
    rw [List.getElem?_set] at ej
    split at ej
    · split at ej
      · cases ej; exact q
      · cases ej
    · rename_i hij
      obtain ⟨c, u⟩ := p
      exact k c u (Ne.symm (h.ne i j e ej hij)) (h.get j ej)
theorem put (h : Hd B L H) (i : Nat) (e : L[i]? = some (a, o)) : Hd B (L.set i (a, o')) (upd H a o') := h.chg i e (fun c u n z => by rw [upd_ne n]; exact z) upd_same
theorem sql (h : Hd B L H) {K : PySem.W.Frag} {xs : List V} (q : SqL K B a xs) : SqL K H a xs := sql_same q h.sm
theorem sqt (h : Hd B L H) {K : PySem.W.Frag} {xs : List V} (q : SqT K B a xs) : SqT K H a xs := by
  rcases q with (q | ⟨o, q⟩) | q
  · exact .inl (.inl (h.sm _ _ q))
  · exact .inl (.inr ⟨o, h.sm _ _ q⟩)
  · exact .inr q
theorem lst (h : Hd B L H) {K : PySem.W.Frag} {xs : List V} (i : Nat) (e : L[i]? = some (a, .lst xs)) : SqL K H a xs := SqL.of (h.get i e)
theorem tup (h : Hd B L H) {K : PySem.W.Frag} {xs : List V} (i : Nat) (e : L[i]? = some (a, .tup xs)) : SqT K H a xs := SqT.of (h.get i e)
theorem sub {L' : List (Addr × HO)} (h : Hd B L H) (s : List.Sublist L' L) : Hd B L' H := ⟨h.nd.sublist (s.map _), fun p m => h.nw p (s.subset m), fun p m => h.st p (s.subset m), h.sm⟩
theorem tl {p : Addr × HO} (h : Hd B (p :: L) H) : Hd B L H := h.sub (List.sublist_cons_self _ _)
theorem free (h : Hd B L H) (n : H a = none) : B a = none := h.sm.free n
theorem add (h : Hd B L H) (n : ∀ p ∈ L, p.1 ≠ a) (nb : B a = none) (e : H a = some o) : Hd B ((a, o) :: L) H := by
  refine ⟨List.nodup_cons.mpr ⟨fun m => ?_, h.nd⟩, fun p m => ?_, fun p m => ?_, h.sm⟩
  · obtain ⟨p, mp, e⟩ := List.mem_map.mp m
    exact n p mp e
  · rcases List.mem_cons.mp m with rfl | m
    · exact nb
    · exact h.nw p m
  · rcases List.mem_cons.mp m with rfl | m
    · exact e
    · exact h.st p m
/-- an object made whose __init__ laid one list beside it -/
theorem made {C x dx l : Addr} {ox ol : HO} (h : Hd B L H) (nx : H x = none) (ndx : H dx = none) (ne : dx ≠ x) (k : ∀ b u, b ≠ x → upd (upd H dx (.own x)) x (.ins C dx []) b = some u → H' b = some u)
    (nl : upd (upd H dx (.own x)) x (.ins C dx []) l = none) (ex : H' x = some ox) (el : H' l = some ol) : Hd B ((l, ol) :: (x, ox) :: (dx, .own x) :: L) H' := by
  have h1 : Hd B ((dx, .own x) :: L) (upd H dx (.own x)) := h.new ndx
  have h2 : Hd B ((x, .ins C dx []) :: (dx, .own x) :: L) (upd (upd H dx (.own x)) x (.ins C dx [])) := h1.new (by rw [upd_ne (Ne.symm ne)]; exact nx)
  have h3 : Hd B ((x, ox) :: (dx, .own x) :: L) H' := h2.chg 0 rfl k ex
  refine h3.add (fun p m => ?_) (h2.free nl) el
  rcases List.mem_cons.mp m with rfl | m
  · exact ne_of_none (h2.get 0 rfl) nl
  · exact ne_of_none (h2.st p (List.mem_cons_of_mem _ m)) nl
/-- an object made -/
theorem made0 {C x dx : Addr} {ox : HO} (h : Hd B L H) (nx : H x = none) (ndx : H dx = none) (ne : dx ≠ x) (k : ∀ b u, b ≠ x → upd (upd H dx (.own x)) x (.ins C dx []) b = some u → H' b = some u) (ex : H' x = some ox) : Hd B ((x, ox) :: (dx, .own x) :: L) H' := by
  have h1 : Hd B ((dx, .own x) :: L) (upd H dx (.own x)) := h.new ndx
  have h2 : Hd B ((x, .ins C dx []) :: (dx, .own x) :: L) (upd (upd H dx (.own x)) x (.ins C dx [])) := h1.new (by rw [upd_ne (Ne.symm ne)]; exact nx)
  exact h2.chg 0 rfl k ex
end Hd
/-! ### a stop between two statements: what holds there -/
section
variable {X : Cx} {st : Stmt} {t : TS} {e : Expr} {te : TE}
def tMid (t : TS) : TS := fun D σ H => ∃ M : St → Hp → Prop, t { D with nx := M } σ H ∧ ∀ σ' H', M σ' H' → D.nx σ' H'
theorem ps_mid (h : PS X st t) : PS X st (tMid t) := by
  intro pins s σ H D I q
  obtain ⟨M, q, k⟩ := q
  refine thn (h pins s σ H _ I q) fun f s1 z => ?_
  cases f with
  | next => exact let ⟨σ', H', I', z⟩ := z; ⟨σ', H', I', k _ _ z⟩
  | ret v => exact z
  | brk => exact z
  | cont => exact z
def tMidE (te : TE) : TE := fun σ H Q => ∃ M : VK, te σ H M ∧ ∀ v H', M v H' → Q v H'
end
end L2

namespace L2
open PySem PySem.Spec PyProof.Rows
/-- a class without an __init__ of its own, none above it -/
structure MkN (K : PySem.W.Frag) (C : Addr) : Prop where
  makes : PySem.W.makesIn K C = true
  init : PySem.W.findIn K (.ref C) "__init__" = some (some (.builtin "object.__init__"))
  kp : PySem.W.keepIn K (.ref C) = true
def tMakeN (C : Addr) : TE := fun _ H Q => ∀ x dx, H x = none → H dx = none → dx ≠ x → Q (.ref x) (upd (upd H dx (.own x)) x (.ins C dx []))
section
variable {X : Cx} {C : Addr} {x : Str} {p pos : Pos}
theorem pe_makeN (M : MkN X.K C) (hg : Gl X x) (hm : X.mg x = some (.ref C)) (hdb : (x == ("__debug__" : Str)) = false := by decide) : PE X (.Call (.Name x p) [] [] pos) (tMakeN C) := by
  intro pins s σ H Q I h
  refine wpAny_Call_Name_kw (ld_glob I hg hm ?_ hdb)
  refine PySem.W.callWith_K0 I.kIn M.kp ?_
  have I2 := Inv.made (C := C) I
  have q := h (s.heap.objs.size + 1) s.heap.objs.size (I.hok.fresh (Nat.le_succ _)) (I.hok.fresh (Nat.le_refl _)) (Nat.ne_of_lt (Nat.lt_succ_self _))
  refine wpAny_call (make_map0 I.kIn M.makes M.init (fun self => PySem.W.Looks.of_pure (PySem.W.oi_bind self)) ?_)
  have Y := PySem.W.makes_of (M := model X.prog X.w) I.kIn M.makes
  have e2 : ((s.heap.push PySem.W.emptyDict).push (PySem.W.instObj C s.heap.objs.size)).get? (s.heap.objs.size + 1) = some (PySem.W.instObj C s.heap.objs.size) := by
    have := Heap.get?_push_size (s.heap.push PySem.W.emptyDict) (o := PySem.W.instObj C s.heap.objs.size) rfl
    rwa [Heap.size_push] at this
  have t1 : PySem.W.Looks (model X.prog X.w) ((s.heap.push PySem.W.emptyDict).push (PySem.W.instObj C s.heap.objs.size)) (typeOf (.ref (s.heap.objs.size + 1))) (.ref C) := (PySem.W.Looks.ld e2).andThen .now
  have kp : ∀ b o, s.heap.get? b = some o → ((s.heap.push PySem.W.emptyDict).push (PySem.W.instObj C s.heap.objs.size)).get? b = some o := fun b o e => Heap.get?_push_of_some _ (Heap.get?_push_of_some _ e)
  have t2 : PySem.W.Looks (model X.prog X.w) ((s.heap.push PySem.W.emptyDict).push (PySem.W.instObj C s.heap.objs.size)) (isInstance (.ref (s.heap.objs.size + 1)) (.type "object")) true := t1.andThen (Y.top.keeps kp)
  refine codeAny_call_builtin PySem.W.oi_plain PySem.W.entry_oi (PySem.W.check_slot PySem.W.oi_kind PySem.W.oi_split t2 (PySem.W.oi_args _) ?_)
  rw [PySem.W.oi_run]
  exact wpAny_pure ⟨rfl, .ref (s.heap.objs.size + 1), _, I2, rfl, q⟩
end
end L2

/-! ### all nine forms, functions among them -/
namespace F2
open PySem L2
abbrev Kin := FM.Kin
abbrev SpotD := FM.SpotD
abbrev Res := FM.Res
mutual
inductive Fm
  | num (n : Int) | here | cell (r : Int) | shi (r b o : Int) | loc (a : Int) | at' (r : Int) (p : Fm) | pair (sg : Str) (l r : Fm) | cho (t l r : Fm) | call (a : Int) (hs : Fms)
inductive Fms
  | nil | cons (f : Fm) (r : Fms)
end
instance : Inhabited Fm := ⟨.here⟩
def Fms.len : Fms → Nat
  | .nil => 0
  | .cons _ r => r.len + 1
structure Cs extends FM.Cs where
  call : Addr
mutual
def FormAt (c : Cs) (H : Hp) : Fm → Addr → Prop
  | .num n, x => ∃ dx, H x = some (.ins c.num dx [("number", .int n)])
  | .here, x => ∃ dx, H x = some (.ins c.here dx [])
  | .cell r, x => ∃ dx, H x = some (.ins c.cell dx [("row", .int r)])
  | .shi r b o, x => ∃ dx, H x = some (.ins c.shi dx [("row", .int r), ("by", .int b), ("other", .int o)])
  | .loc a, x => ∃ dx, H x = some (.ins c.loc dx [("at", .int a)])
  | .at' r p, x => ∃ dx y, H x = some (.ins c.at' dx [("row", .int r), ("place", .ref y)]) ∧ FormAt c H p y
  | .pair sg l r, x => ∃ dx y z, H x = some (.ins c.pair dx [("sign", .str sg), ("left", .ref y), ("right", .ref z)]) ∧ FormAt c H l y ∧ FormAt c H r z
  | .cho t l r, x => ∃ dx u y z, H x = some (.ins c.cho dx [("test", .ref u), ("left", .ref y), ("right", .ref z)]) ∧ FormAt c H t u ∧ FormAt c H l y ∧ FormAt c H r z
  | .call a hs, x => ∃ dx l ys, H x = some (.ins c.call dx [("at", .int a), ("handed", .ref l)]) ∧ H l = some (.lst (ys.map V.ref)) ∧ FormsAt c H hs ys
def FormsAt (c : Cs) (H : Hp) : Fms → List Addr → Prop
  | .nil, ys => ys = []
  | .cons f r, ys => ∃ y t, ys = y :: t ∧ FormAt c H f y ∧ FormsAt c H r t
end
mutual
theorem FormAt.same {c : Cs} {H H' : Hp} (s : Same H H') : ∀ {F : Fm} {x : Addr}, FormAt c H F x → FormAt c H' F x
  | .num _, _, h => by obtain ⟨dx, h⟩ := h; exact ⟨dx, s _ _ h⟩
  | .here, _, h => by obtain ⟨dx, h⟩ := h; exact ⟨dx, s _ _ h⟩
  | .cell _, _, h => by obtain ⟨dx, h⟩ := h; exact ⟨dx, s _ _ h⟩
  | .shi _ _ _, _, h => by obtain ⟨dx, h⟩ := h; exact ⟨dx, s _ _ h⟩
  | .loc _, _, h => by obtain ⟨dx, h⟩ := h; exact ⟨dx, s _ _ h⟩
  | .at' _ _, _, h => by obtain ⟨dx, y, h, p⟩ := h; exact ⟨dx, y, s _ _ h, FormAt.same s p⟩
  | .pair _ _ _, _, h => by obtain ⟨dx, y, z, h, p, q⟩ := h; exact ⟨dx, y, z, s _ _ h, FormAt.same s p, FormAt.same s q⟩
  | .cho _ _ _, _, h => by obtain ⟨dx, u, y, z, h, o, p, q⟩ := h; exact ⟨dx, u, y, z, s _ _ h, FormAt.same s o, FormAt.same s p, FormAt.same s q⟩
  | .call _ _, _, h => by obtain ⟨dx, l, ys, h, e, p⟩ := h; exact ⟨dx, l, ys, s _ _ h, s _ _ e, FormsAt.same s p⟩
theorem FormsAt.same {c : Cs} {H H' : Hp} (s : Same H H') : ∀ {F : Fms} {ys : List Addr}, FormsAt c H F ys → FormsAt c H' F ys
  | .nil, _, h => h
  | .cons _ _, _, h => by obtain ⟨y, t, e, p, q⟩ := h; exact ⟨y, t, e, FormAt.same s p, FormsAt.same s q⟩
end
theorem FormsAt.len {c : Cs} {H : Hp} : ∀ {F : Fms} {ys : List Addr}, FormsAt c H F ys → ys.length = F.len
  | .nil, _, h => by cases (show _ = [] from h); rfl
  | .cons _ r, _, h => by
    obtain ⟨y, t, e, _, q⟩ := h
    subst e
    show t.length + 1 = r.len + 1
    rw [FormsAt.len q]
/-- a function: how many numbers it is handed, its body -/
abbrev Fn := Nat × Fm
def bodyOf (fs : List Fn) (a : Int) : Fm := (fs.getD a.toNat (0, .here)).2
def handsOf (fs : List Fn) (a : Int) : Nat := (fs.getD a.toNat (0, .here)).1
structure FunsAt (c : Cs) (K : PySem.W.Frag) (H : Hp) (f : Addr) (fs : List Fn) : Prop where
  ex : ∃ ts : List Addr, SqL K H f (ts.map V.ref) ∧ ts.length = fs.length ∧ ∀ i, i < fs.length → ∃ b, SqT K H (ts.getD i 0) [.int ((fs.getD i (0, .here)).1 : Int), .ref b] ∧ FormAt c H (fs.getD i (0, .here)).2 b
theorem sqt_same {K : PySem.W.Frag} {H H' : Hp} {a : Addr} {xs : List V} (h : SqT K H a xs) (s : Same H H') : SqT K H' a xs := by
  rcases h with h | h
  · exact .inl (h.imp (fun z => s _ _ z) fun ⟨o, z⟩ => ⟨o, s _ _ z⟩)
  · exact .inr h
theorem FunsAt.same {c : Cs} {K : PySem.W.Frag} {H H' : Hp} {f : Addr} {fs : List Fn} (h : FunsAt c K H f fs) (s : Same H H') : FunsAt c K H' f fs := by
  obtain ⟨ts, a, b, d⟩ := h.ex
  exact ⟨ts, sql_same a s, b, fun i hi => let ⟨x, p, q⟩ := d i hi; ⟨x, sqt_same p s, q.same s⟩⟩
structure SpotAt (c : Cs) (K : PySem.W.Frag) (H : Hp) (x : Addr) (S : SpotD) (fs : List Fn) : Prop where
  ex : ∃ dx l f e o, H x = some (.ins c.spot dx [("lengths", .ref l), ("functions", .ref f), ("cells", .ref e), ("place", .int S.place), ("own", .ref o)]) ∧ SqL K H l (S.lens.map V.int) ∧ FunsAt c K H f fs ∧ SqL K H e (S.cells.map V.int) ∧ SqL K H o (S.own.map V.int)
theorem SpotAt.same {c : Cs} {K : PySem.W.Frag} {H H' : Hp} {x : Addr} {S : SpotD} {fs : List Fn} (s : Same H H') (h : SpotAt c K H x S fs) : SpotAt c K H' x S fs := by
  obtain ⟨dx, l, f, e, o, h1, h2, h3, h4, h5⟩ := h.ex
  exact ⟨dx, l, f, e, o, s _ _ h1, sql_same h2 s, h3.same s, sql_same h4 s, sql_same h5 s⟩
theorem SpotAt.old {c : Cs} {K : PySem.W.Frag} {H : Hp} {x : Addr} {S : SpotD} {fs : List Fn} (h : SpotAt c K H x S fs) : FM.SpotAt c.toCs K H x S := by
  obtain ⟨dx, l, f, e, o, h1, h2, h3, h4, h5⟩ := h.ex
  exact ⟨dx, l, f, e, o, h1, h2, h4, h5⟩
inductive RL | ok (l : List Int) | bad (e : Res)
mutual
def ev (cl : Int → List Int → Res) (S : SpotD) : Fm → Res
  | .num n => .ok n
  | .here => .ok S.place
  | .cell r => if S.len r = 1 then .ok (S.cellAt r 0) else .ok (S.cellAt r S.place)
  | .shi r b o => if 0 ≤ S.place + b ∧ S.place + b < S.len r then .ok (S.cellAt r (S.place + b)) else .ok o
  | .loc a => .ok (S.own.getD a.toNat 0)
  | .at' r p => match ev cl S p with
    | .ok q => if 0 ≤ q ∧ q < S.len r then .ok (S.cellAt r q) else .outside
    | e => e
  | .pair sg l r => match ev cl S l with
    | .ok a => (match ev cl S r with
      | .ok b => (match FM.doneR sg a b with
        | some n => .ok n
        | none => .nought)
      | e => e)
    | e => e
  | .cho t l r => match ev cl S t with
    | .ok a => if a ≠ 0 then ev cl S l else ev cl S r
    | e => e
  | .call a hs => match evs cl S hs with
    | .ok l => cl a l
    | .bad e => e
def evs (cl : Int → List Int → Res) (S : SpotD) : Fms → RL
  | .nil => .ok []
  | .cons f r => match ev cl S f with
    | .ok n => (match evs cl S r with
      | .ok l => .ok (n :: l)
      | .bad e => .bad e)
    | e => .bad e
end
/-- a call, as deep as k -/
def callK (fs : List Fn) (S : SpotD) : Nat → Int → List Int → Res
  | 0, _, _ => .outside
  | k + 1, a, l => ev (callK fs S k) { S with own := l } (bodyOf fs a)
/-- the worth of a form at a spot -/
abbrev worth (fs : List Fn) (k : Nat) (S : SpotD) (F : Fm) : Res := ev (callK fs S k) S F
mutual
def WF (fs : List Fn) (k : Nat) (S : SpotD) : Fm → Prop
  | .num n => Kin n
  | .here => True
  | .cell r => S.has r ∧ 1 ≤ S.len r ∧ (S.len r ≠ 1 → 0 ≤ S.place ∧ S.place < S.len r)
  | .shi r _ o => S.has r ∧ Kin o
  | .loc a => 0 ≤ a ∧ a.toNat < S.own.length
  | .at' r p => S.has r ∧ WF fs k S p
  | .pair sg l r => sg ∈ FM.signs ∧ WF fs k S l ∧ WF fs k S r
  | .cho t l r => WF fs k S t ∧ WF fs k S l ∧ WF fs k S r
  | .call a hs => 0 ≤ a ∧ a.toNat < k ∧ a.toNat < fs.length ∧ hs.len = handsOf fs a ∧ WFs fs k S hs
def WFs (fs : List Fn) (k : Nat) (S : SpotD) : Fms → Prop
  | .nil => True
  | .cons f r => WF fs k S f ∧ WFs fs k S r
end
/-- the functions' bodies: handed enough, calling only those ahead -/
def Bodies (fs : List Fn) : Prop := ∀ (a : Int) (S : SpotD) (l : List Int), 0 ≤ a → a.toNat < fs.length → l.length = handsOf fs a → WF fs a.toNat { S with own := l } (bodyOf fs a)
mutual
theorem WF.mono {fs : List Fn} {j k : Nat} {S : SpotD} (h : j ≤ k) : ∀ {F : Fm}, WF fs j S F → WF fs k S F
  | .num _, w => w
  | .here, w => w
  | .cell _, w => w
  | .shi _ _ _, w => w
  | .loc _, w => w
  | .at' _ _, w => ⟨w.1, WF.mono h w.2⟩
  | .pair _ _ _, w => ⟨w.1, WF.mono h w.2.1, WF.mono h w.2.2⟩
  | .cho _ _ _, w => ⟨WF.mono h w.1, WF.mono h w.2.1, WF.mono h w.2.2⟩
  | .call _ _, w => ⟨w.1, by have := w.2.1; omega, w.2.2.1, w.2.2.2.1, WFs.mono h w.2.2.2.2⟩
theorem WFs.mono {fs : List Fn} {j k : Nat} {S : SpotD} (h : j ≤ k) : ∀ {F : Fms}, WFs fs j S F → WFs fs k S F
  | .nil, _ => trivial
  | .cons _ _, w => ⟨WF.mono h w.1, WFs.mono h w.2⟩
end
mutual
/-- deeper calls than there are functions ahead change nothing -/
theorem ev_mono {fs : List Fn} (hb : Bodies fs) {S T : SpotD} {j k k' : Nat} (h1 : j ≤ k) (h2 : j ≤ k') (ih : ∀ a l, 0 ≤ a → a.toNat < j → a.toNat < fs.length → l.length = handsOf fs a → callK fs T k a l = callK fs T k' a l) : ∀ {F : Fm}, WF fs j S F → ev (callK fs T k) S F = ev (callK fs T k') S F
  | .num _, _ => rfl
  | .here, _ => rfl
  | .cell _, _ => rfl
  | .shi _ _ _, _ => rfl
  | .loc _, _ => rfl
  | .at' r p, w => by unfold ev; rw [ev_mono hb h1 h2 ih w.2]
  | .pair sg l r, w => by unfold ev; rw [ev_mono hb h1 h2 ih w.2.1, ev_mono hb h1 h2 ih w.2.2]
  | .cho t l r, w => by unfold ev; rw [ev_mono hb h1 h2 ih w.1, ev_mono hb h1 h2 ih w.2.1, ev_mono hb h1 h2 ih w.2.2]
  | .call a hs, w => by
    unfold ev
    obtain ⟨e, el⟩ := evs_mono hb h1 h2 ih w.2.2.2.2
    rw [e]
    cases z : evs (callK fs T k') S hs with
    | bad _ => rfl
    | ok l =>
      exact ih a l w.1 w.2.1 w.2.2.1 (by rw [el l z]; exact w.2.2.2.1)
theorem evs_mono {fs : List Fn} (hb : Bodies fs) {S T : SpotD} {j k k' : Nat} (h1 : j ≤ k) (h2 : j ≤ k') (ih : ∀ a l, 0 ≤ a → a.toNat < j → a.toNat < fs.length → l.length = handsOf fs a → callK fs T k a l = callK fs T k' a l) : ∀ {F : Fms}, WFs fs j S F → evs (callK fs T k) S F = evs (callK fs T k') S F ∧ ∀ l, evs (callK fs T k') S F = .ok l → l.length = F.len
  | .nil, _ => ⟨rfl, fun l e => by cases (show RL.ok [] = RL.ok l from e); rfl⟩
  | .cons f r, w => by
    have e1 := ev_mono hb h1 h2 ih w.1
    obtain ⟨e2, el⟩ := evs_mono hb h1 h2 ih w.2
    refine ⟨by unfold evs; rw [e1, e2], fun l e => ?_⟩
    unfold evs at e
    split at e
    · split at e
      · rename_i l' z
        cases e
        show l'.length + 1 = r.len + 1
        rw [el l' z]
      · cases e
    · cases e
end
theorem callK_own {fs : List Fn} {S : SpotD} {m : List Int} : ∀ k, callK fs { S with own := m } k = callK fs S k
  | 0 => rfl
  | k + 1 => by
    funext a l
    show ev (callK fs { S with own := m } k) { S with own := l } (bodyOf fs a) = ev (callK fs S k) { S with own := l } (bodyOf fs a)
    rw [callK_own k]
theorem evs_bad {cl : Int → List Int → Res} {S : SpotD} (n : Int) : ∀ {F : Fms}, evs cl S F ≠ .bad (.ok n)
  | .nil => fun e => by cases (show RL.ok [] = RL.bad _ from e)
  | .cons f r => fun e => by
    unfold evs at e
    split at e
    · split at e
      · cases e
      · rename_i e' z
        cases e
        exact evs_bad n z
    · rename_i e' z
      injection e with e
      exact z n e
mutual
theorem ev_kin {fs : List Fn} {S : SpotD} (o : FM.SpotOk S) {k : Nat} {cl : Int → List Int → Res} (hc : ∀ a l n, 0 ≤ a → a.toNat < k → a.toNat < fs.length → l.length = handsOf fs a → (∀ v ∈ l, Kin v) → cl a l = .ok n → Kin n) : ∀ {F : Fm} {n : Int}, WF fs k S F → ev cl S F = .ok n → Kin n
  | .num _, _, h, e => by cases (show FM.Res.ok _ = FM.Res.ok _ from e); exact h
  | .here, _, _, e => by cases (show FM.Res.ok _ = FM.Res.ok _ from e); exact o.pl
  | .cell r, n, h, e => by
    unfold ev at e
    split at e
    · rename_i z; cases e; exact (FM.cell_in o h.1 (by omega) (by omega)).2.2
    · rename_i z; cases e; exact (FM.cell_in o h.1 (h.2.2 z).1 (h.2.2 z).2).2.2
  | .shi r b o', n, h, e => by
    unfold ev at e
    split at e
    · rename_i z; cases e; exact (FM.cell_in o h.1 z.1 z.2).2.2
    · cases e; exact h.2
  | .loc a, n, h, e => by cases (show FM.Res.ok _ = FM.Res.ok _ from e); exact o.ok' _ (L2.getD_mem h.2)
  | .at' r p, n, h, e => by
    unfold ev at e
    split at e
    · rename_i q hq
      split at e
      · rename_i z; cases e; exact (FM.cell_in o h.1 z.1 z.2).2.2
      · cases e
    · rename_i e' hq; exact absurd e (hq n)
  | .pair sg l r, n, h, e => by
    unfold ev at e
    split at e
    · rename_i a ha
      split at e
      · rename_i b hb
        split at e
        · rename_i m hm; cases e; exact FM.done_in h.1 (ev_kin o hc h.2.1 ha) (ev_kin o hc h.2.2 hb) hm
        · cases e
      · rename_i e' hq; exact absurd e (hq n)
    · rename_i e' hq; exact absurd e (hq n)
  | .cho t l r, n, h, e => by
    unfold ev at e
    split at e
    · split at e
      · exact ev_kin o hc h.2.1 e
      · exact ev_kin o hc h.2.2 e
    · rename_i e' hq; exact absurd e (hq n)
  | .call a hs, n, h, e => by
    unfold ev at e
    split at e
    · rename_i l z
      obtain ⟨q1, q2⟩ := evs_kin o hc h.2.2.2.2 z
      exact hc a l n h.1 h.2.1 h.2.2.1 (by rw [q1]; exact h.2.2.2.1) q2 e
    · rename_i e' z
      cases e'
      · exact absurd z (evs_bad _)
      · cases e
      · cases e
theorem evs_kin {fs : List Fn} {S : SpotD} (o : FM.SpotOk S) {k : Nat} {cl : Int → List Int → Res} (hc : ∀ a l n, 0 ≤ a → a.toNat < k → a.toNat < fs.length → l.length = handsOf fs a → (∀ v ∈ l, Kin v) → cl a l = .ok n → Kin n) : ∀ {F : Fms} {l : List Int}, WFs fs k S F → evs cl S F = .ok l → l.length = F.len ∧ ∀ v ∈ l, Kin v
  | .nil, l, _, e => by cases (show RL.ok [] = RL.ok l from e); exact ⟨rfl, fun v hv => nomatch hv⟩
  | .cons f r, l, h, e => by
    unfold evs at e
    split at e
    · rename_i n hn
      split at e
      · rename_i l' z
        cases e
        obtain ⟨q1, q2⟩ := evs_kin o hc h.2 z
        refine ⟨by show l'.length + 1 = r.len + 1; rw [q1], fun v hv => ?_⟩
        rcases List.mem_cons.mp hv with rfl | hv
        · exact ev_kin o hc h.1 hn
        · exact q2 v hv
      · cases e
    · cases e
end
end F2

namespace F2
open PySem L2
abbrev SpotOk := FM.SpotOk
theorem SpotOk.hand {S : SpotD} (o : FM.SpotOk S) {l : List Int} (h : ∀ v ∈ l, Kin v) : FM.SpotOk { S with own := l } := ⟨o.ln, o.tot, o.ck, h, o.pl⟩
theorem call_kin {fs : List Fn} (hb : Bodies fs) {S : SpotD} (o : FM.SpotOk S) : ∀ (k : Nat) (a : Int) (l : List Int) (n : Int), 0 ≤ a → a.toNat < k → a.toNat < fs.length → l.length = handsOf fs a → (∀ v ∈ l, Kin v) → callK fs S k a l = .ok n → Kin n
  | 0, _, _, _, _, h, _, _, _, _ => absurd h (Nat.not_lt_zero _)
  | k + 1, a, l, n, h0, h1, h2, h3, h4, e => by
    have e : ev (callK fs S k) { S with own := l } (bodyOf fs a) = .ok n := e
    exact ev_kin (fs := fs) (k := k) (SpotOk.hand o h4) (fun a l n x0 x1 x2 x3 x4 x5 => call_kin hb o k a l n x0 x1 x2 x3 x4 x5) (WF.mono (by omega) (hb a S l h0 h2 h3)) e
theorem worth_kin {fs : List Fn} (hb : Bodies fs) {S : SpotD} (o : FM.SpotOk S) {k : Nat} {F : Fm} {n : Int} (w : WF fs k S F) (e : worth fs k S F = .ok n) : Kin n := ev_kin (fs := fs) (k := k) o (fun a l n x0 x1 x2 x3 x4 x5 => call_kin hb o k a l n x0 x1 x2 x3 x4 x5) w e
abbrev Out := FM.Out
/-- the promise of a form -/
def Worth (P : Program) (w : World) (K : PySem.W.Frag) (mg : Str → Option Value) (base : Heap) (c : Cs) (CN OU : Addr) (rm : Nat) (fs : List Fn) (k : Nat) (F : Fm) : Prop :=
  ∀ (x : Addr) (H : Hp), FormAt c H F x → ∃ C dx f sp, H x = some (.ins C dx f) ∧ DispX P w K mg base (CXe P w base) rm "worth" C sp ∧ f.lookup ("worth" : Str) = none ∧
    ∀ (s : Addr) (S : SpotD) (Q : VK) (E : XK) (H' : Hp), Same H H' → SpotAt c K H' s S fs → FM.SpotOk S → WF fs k S F → FM.Out CN OU (worth fs k S F) H' Q E → sp [.ref x, .ref s] H' Q E
theorem Worth.mono {P : Program} {w : World} {K : PySem.W.Frag} {mg : Str → Option Value} {base : Heap} {c : Cs} {CN OU : Addr} {j rm : Nat} {fs : List Fn} {k : Nat} {F : Fm} (h : Worth P w K mg base c CN OU j fs k F) (l : j ≤ rm) : Worth P w K mg base c CN OU rm fs k F := fun x H q => by
  obtain ⟨C, dx, f, sp, a, b, d, e⟩ := h x H q
  exact ⟨C, dx, f, sp, a, b.mono l, d, e⟩
/-! ### the forms that are handed -/
def Fms.drop : Nat → Fms → Fms
  | 0, h => h
  | _ + 1, .nil => .nil
  | n + 1, .cons _ r => r.drop n
def Fms.All (p : Fm → Prop) : Fms → Prop
  | .nil => True
  | .cons f r => p f ∧ r.All p
theorem FormsAt.get {c : Cs} {H : Hp} {p : Fm → Prop} {fs : List Fn} {k : Nat} {S : SpotD} : ∀ {F : Fms} {ys : List Addr} {i : Nat} {y : Addr}, FormsAt c H F ys → F.All p → WFs fs k S F → ys[i]? = some y → ∃ f, F.drop i = .cons f (F.drop (i + 1)) ∧ FormAt c H f y ∧ p f ∧ WF fs k S f
  | .nil, ys, i, y, h, _, _, e => by
    cases (show ys = [] from h)
    cases e
  | .cons f r, ys, 0, y, h, a, w, e => by
    obtain ⟨y', t, rfl, q, _⟩ := h
    cases (show some y' = some y from e)
    exact ⟨f, rfl, q, a.1, w.1⟩
  | .cons f r, ys, i + 1, y, h, a, w, e => by
    obtain ⟨y', t, rfl, _, q⟩ := h
    exact FormsAt.get (F := r) (i := i) q a.2 w.2 e
theorem drop_all : ∀ {F : Fms}, F.drop F.len = .nil
  | .nil => rfl
  | .cons _ r => drop_all (F := r)
def RL.pre (l : List Int) : RL → RL
  | .ok m => .ok (l ++ m)
  | .bad e => .bad e
theorem pre_nil {r : RL} : r.pre [] = r := by cases r <;> rfl
theorem evs_cons {cl : Int → List Int → Res} {S : SpotD} {f : Fm} {r : Fms} : evs cl S (.cons f r) = (match ev cl S f with
    | .ok n => (match evs cl S r with
      | .ok l => .ok (n :: l)
      | .bad e => .bad e)
    | e => .bad e) := by
  conv => lhs; unfold evs
  all_goals rfl
theorem worth_call {fs : List Fn} {k : Nat} {S : SpotD} {a : Int} {gs : Fms} : worth fs k S (.call a gs) = (match evs (callK fs S k) S gs with
    | .ok l => callK fs S k a l
    | .bad e => e) := by
  conv => lhs; unfold worth ev
  all_goals rfl
theorem pre_step {cl : Int → List Int → Res} {S : SpotD} {f : Fm} {r : Fms} {l : List Int} {n : Int} (h : ev cl S f = .ok n) : (evs cl S (.cons f r)).pre l = (evs cl S r).pre (l ++ [n]) := by
  rw [evs_cons, h]
  cases evs cl S r with
  | ok m => show RL.ok (l ++ n :: m) = RL.ok (l ++ [n] ++ m); rw [List.append_assoc]; rfl
  | bad e => rfl
theorem pre_bad {cl : Int → List Int → Res} {S : SpotD} {f : Fm} {r : Fms} {l : List Int} {e : Res} (h : ev cl S f = e) (hb : ∀ n, e ≠ .ok n) : (evs cl S (.cons f r)).pre l = .bad e := by
  rw [evs_cons, h]
  cases e with
  | ok n => exact absurd rfl (hb n)
  | nought => rfl
  | outside => rfl
end F2

namespace L2
open PySem PySem.Spec PyProof.Rows
/-! ### comprehensions with one test -/
section
variable {prog : Program} {w : World} {A : Around} {R : Result → Shared → Prop} {s : Shared}
/-- the block's loop, no exception -/
theorem comp_loopF {elt target iter tst : Expr} {scope : Scope} {pos : Pos} {it acc : Value} {env : Env} (I : Nat → Shared → Prop)
    (turn : ∀ n s, I n s → wpAny (model prog w) A (pyNext it) (fun r s₁ => match r with
      | none => R (.ok .next) s₁
      | some v => wpAny (model prog w) A (letOwnedTupleGo target it v) (fun _ s₂ => wpAny (model prog w) A (assign target env v) (fun _ s₃ => wpAny (model prog w) A (isTrue tst env (eval tst env)) (fun ok t₃ => match ok with
          | true => wpAny (model prog w) A (eval elt env) (fun x s₄ => wpAny (model prog w) A (call (.builtin "list.append") [acc, x]) (fun _ s₅ => ∃ m, m < n ∧ I m s₅) (fun _ _ => False) s₄) (fun _ _ => False) t₃
          | false => ∃ m, m < n ∧ I m t₃) (fun _ _ => False) s₃) (fun _ _ => False) s₂) (fun _ _ => False) s₁) (fun _ _ => False) s)
    (n : Nat) (h : I n s) : codeAny (model prog w) A (.compLoop (.ListComp elt [⟨target, iter, [tst], 0⟩] scope pos) 0 it acc env) R s := by
  refine codeAny_loop rfl I (fun n s hI => ?_) n h
  show wpAny _ _ ((compTurn (.ListComp elt [⟨target, iter, [tst], 0⟩] scope pos) 0 it acc env).onRaise (fun x => do noteFrame x env; theTreesLotGoes x)) _ _ s
  refine wpAny_noted ?_
  rw [compTurn_list]
  refine wpAny_bind (wpAny_standAt (wpAny_bind (wpAny_mono (turn n s hI) (fun r s₁ h₁ => ?_) fun _ _ z => z.elim)))
  cases r with
  | none => exact wpAny_pure h₁
  | some v =>
    refine wpAny_bind (wpAny_mono h₁ (fun _ s₂ h₂ => ?_) fun _ _ z => z.elim)
    refine wpAny_bind (wpAny_mono h₂ (fun _ s₃ h₃ => ?_) fun _ _ z => z.elim)
    refine wpAny_bind (wpAny_tests_one (wpAny_mono h₃ (fun ok t₃ h₃ => ?_) fun _ _ z => z.elim))
    cases ok with
    | false => exact wpAny_pure ⟨rfl, h₃⟩
    | true =>
      refine wpAny_bind (wpAny_bind (wpAny_mono h₃ (fun x s₄ h₄ => ?_) fun _ _ z => z.elim))
      exact wpAny_bind (wpAny_mono h₄ (fun _ s₅ h₅ => wpAny_pure (wpAny_pure ⟨rfl, h₅⟩)) fun _ _ z => z.elim)
end
def CompWF (J : It) (g : TG) (tt : TT) (te : TE) (σY : St) (H1 : Hp) (D : Addr) (Q : VK) : Prop := ∃ W : Nat → Nat → St → Hp → Prop, (∃ m, W 0 m σY H1) ∧ ∀ i m σ' H', W i m σ' H' →
  (J.stop i H' ∧ Q (.ref D) H') ∨ (J.go i H' ∧ ∃ N : St → Hp → Prop, (∀ σ2 H2, N σ2 H2 → ∃ m', m' < m ∧ W (i + 1) m' σ2 H2) ∧
    ∀ x H2, J.yld i H' x H2 → g x σ' H2 fun σ3 H3 => tt σ3 H3 fun b H4 => if b = true then te σ3 H4 fun v H5 => ∃ xs, H5 D = some (.lst xs) ∧ xs.length < sizeLine ∧ N σ3 (upd H5 D (.lst (xs ++ [v]))) else N σ3 H4)
def tCompF (wi : TI) (g : TG) (tt : TT) (te : TE) (σ0 : St → Hp → St → Prop) : TE := fun σ H Q => wi σ H fun J H1 => ∃ σY, σ0 σ H1 σY ∧ ∀ D, H1 D = none → CompWF J g tt te σY (upd H1 D (.lst [])) D Q
section
variable {X : Cx} {tg : Expr}
theorem comp_coreF {iter elt tst : Expr} {scope : Scope} {pos pos' : Pos} {cl : List (Str × Addr)} {NY : List Str} {wi : TI} {g : TG} {tt : TT} {te : TE} {σ0 : St → Hp → St → Prop} (hc : X.calm = true) (S : Sees X scope cl) (hi : PI X tg iter wi)
    (hY : ∀ (s3 : Shared) (H3 : Hp) (fp : List Addr), PG (X.comp scope cl NY s3 H3 fp) tg g ∧ PT (X.comp scope cl NY s3 H3 fp) tst tt ∧ PE (X.comp scope cl NY s3 H3 fp) elt te)
    (h0 : ∀ (pins : List (Addr × Obj)) (σ : St) (H : Hp) (s3 : Shared) (σY : St), Inv X pins σ H s3 → σ0 σ H σY → σY.length = NY.length ∧ ∀ (i : Nat) (x : Str) (v : V), NY[i]? = some x → σY[i]? = some (some v) →
      ∃ c u, (((compEnvC scope cl 0 X.env).kindOf x = some .cell ∨ (compEnvC scope cl 0 X.env).kindOf x = some .free)) ∧ cl.lookup x = some c ∧ RelV v u ∧ s3.heap.IsCell c (some u))
    (hs : ∀ x, foldedSetIterable iter X.env x = pure x) {use : Option (Value → Sem Unit)} {R : Value → Shared → Prop} {pins : List (Addr × Obj)} {s : Shared} {σ : St} {H : Hp} {Q : VK} (I : Inv X pins σ H s) (h : tCompF wi g tt te σ0 σ H Q)
    (fin : ∀ (C D : Addr) (H5 : Hp) (s6 : Shared), CompEnd X pins σ H5 s6 C → Q (.ref D) H5 → compPost (model X.prog X.w) X.A X.xe use R (.ref D) C (.ok .next) s6) :
    wpAny (model X.prog X.w) X.A (comprehension (.ListComp elt [⟨tg, iter, [tst], 0⟩] scope pos) scope X.env pos' (newList []) (firstAsync [⟨tg, iter, [tst], 0⟩]) (firstIter [⟨tg, iter, [tst], 0⟩] X.env) use) R X.xe s := by
  refine wpAny_comprehension_free rfl hs S.clos S.kind S.names (thn (hi pins s σ H _ I h) fun v s1 h1 => thn h1 fun itv s2 h2 => ?_)
  obtain ⟨it, fp, tn, J, H2, e, I2, T, st2, f2, σY, hσ, hW⟩ := h2
  subst e
  refine wpAny_newObj_type ?_
  -- the new list
  have I3 : Inv X pins σ (upd H2 s2.heap.objs.size (.lst [])) { s2 with heap := s2.heap.push { cls := .type "list", data := .seq ([] : List Value).toArray } } := I2.lnew (t' := s2.toks) (its := []) .nil (Nat.zero_le _)
  obtain ⟨W, ⟨m0, w0⟩, turn⟩ := hW s2.heap.objs.size (I2.hok.fresh (Nat.le_refl _))
  have ob2 := T.obj _ _ st2
  have hfp : ∀ b ∈ fp, FpOk X pins (upd H2 s2.heap.objs.size (.lst [])) b := fun b hb => by
    obtain ⟨o, q, _⟩ := ob2 b hb
    exact ⟨by rw [upd_ne (Nat.ne_of_lt (Heap.lt_size q))]; exact (f2 b hb).1, (f2 b hb).2⟩
  have hob : ∀ b ∈ fp, ∃ o, (s2.heap.push { cls := .type "list", data := .seq ([] : List Value).toArray }).get? b = some o := fun b hb => by
    obtain ⟨o, q, _⟩ := ob2 b hb
    exact ⟨o, Heap.get?_push_of_some _ q⟩
  refine wpAny_newFunctionEnv S.nocell (fun y hy => absurd hy (by simp)) (fun h1 hn1 hs1 => ?_) S.kind
  obtain ⟨hl, hY0⟩ := h0 pins σ H2 s2 σY I2 hσ
  have k23 : ∀ b o, s2.heap.get? b = some o → (s2.heap.push { cls := .type "list", data := .seq ([] : List Value).toArray }).get? b = some o := fun b o q => Heap.get?_push_of_some _ q
  have k34 : ∀ b o, (s2.heap.push { cls := .type "list", data := .seq ([] : List Value).toArray }).get? b = some o → h1.get? b = some o := fun b o q => (hs1.2 b (Nat.ne_of_lt (Heap.lt_size q))).trans (Heap.get?_push_of_some _ q)
  have I4 := comp_inv (scope := scope) (cl := cl) (NY := NY) (fp := fp) (h1 := h1) (t := s2.toks) (σY := σY) I3 S hfp hob hn1 k34 hl fun i x v e1 e2 => by
    obtain ⟨c, u, k, q, r, o, z1, z2⟩ := hY0 i x v e1 e2
    exact ⟨c, u, k, q, r, o, k23 _ _ z1, z2⟩
  have st4 : tn 0 h1 := T.keep _ _ _ st2 fun b hb o q => k34 _ _ (k23 _ _ q)
  have fr4 : ∀ b ∈ fp, (upd H2 s2.heap.objs.size (.lst [])) b = none := fun b hb => (hfp b hb).1
  obtain ⟨hg, ht, he⟩ := hY { s2 with heap := s2.heap.push { cls := .type "list", data := .seq ([] : List Value).toArray } } (upd H2 s2.heap.objs.size (.lst [])) fp
  have okY := I4.ok
  have statY : ∀ {H' : Hp}, (∀ b ∈ fp, H' b = none) → ∀ b ∈ fp, FpOk (X.comp scope cl NY { s2 with heap := s2.heap.push { cls := .type "list", data := .seq ([] : List Value).toArray } } (upd H2 s2.heap.objs.size (.lst [])) fp) [] H' b :=
    fun hn b hb => ⟨hn b hb, (okY.exf b hb).1, okY.exfs b hb, .inl hb, (okY.exf b hb).2, fun p hp => absurd hp (by simp)⟩
  have loop : codeAny (model X.prog X.w) X.A (.compLoop (.ListComp elt [⟨tg, iter, [tst], 0⟩] scope pos) 0 (.ref it) (.ref s2.heap.objs.size) (compEnvC scope cl (s2.heap.push { cls := .type "list", data := .seq ([] : List Value).toArray }).objs.size X.env))
      (compPost (model X.prog X.w) X.A X.xe use R (.ref s2.heap.objs.size) (s2.heap.push { cls := .type "list", data := .seq ([] : List Value).toArray }).objs.size) { s2 with heap := h1, toks := s2.toks } := by
    refine comp_loopF (fun n s' => ∃ i σ' H', Inv (X.comp scope cl NY { s2 with heap := s2.heap.push { cls := .type "list", data := .seq ([] : List Value).toArray } } (upd H2 s2.heap.objs.size (.lst [])) fp) [] σ' H' s' ∧ tn i s'.heap ∧ (∀ b ∈ fp, H' b = none) ∧ W i n σ' H') ?_ m0 ⟨0, σY, _, I4, st4, fr4, w0⟩
    rintro n s5 ⟨i, σ5, H5, I5, st5, fr5, w5⟩
    rcases turn i n σ5 H5 w5 with ⟨stop, q⟩ | ⟨go, N, hN, step⟩
    · refine thn (T.done (X.comp scope cl NY { s2 with heap := s2.heap.push { cls := .type "list", data := .seq ([] : List Value).toArray } } (upd H2 s2.heap.objs.size (.lst [])) fp) rfl rfl rfl hc i [] s5 σ5 H5 _ I5 (statY fr5) st5 stop) fun r s6 ⟨hr, I6⟩ => ?_
      subst hr
      obtain ⟨m, hm, _⟩ := I6.loc
      refine fin _ _ H5 s6 ⟨⟨m, hm⟩, I6.free, Ne.symm (Nat.ne_of_lt I3.lt), I3.sz, fun x c z => ?_, fun p hp => ?_, fun h' hs' => comp_back I3 hfp I6 hs'⟩ q
      · obtain ⟨_, o, z1, _⟩ := I3.cell x c z
        exact Nat.ne_of_lt (Heap.lt_size z1)
      · exact Nat.ne_of_lt (Heap.lt_size (I3.pin p hp).1)
    · refine thn (T.item (X.comp scope cl NY { s2 with heap := s2.heap.push { cls := .type "list", data := .seq ([] : List Value).toArray } } (upd H2 s2.heap.objs.size (.lst [])) fp) rfl rfl rfl hc i [] s5 σ5 H5 _ I5 (statY fr5) st5 go) fun r s6 ⟨u, hr, h6⟩ => ?_
      subst hr
      refine thn h6 fun _ s7 ⟨x, H7, I7, r7, y7, st7, fr7⟩ => ?_
      have I7' := I7.pinned (statY fr7) (T.obj _ _ st7)
      refine thn (hg _ s7 σ5 H7 x u _ I7' r7 (step x H7 y7)) fun _ s8 ⟨σ8, H8, I8, q8⟩ => ?_
      have pk : ∀ {H' : Hp} {s' : Shared} {σ' : St}, Inv (X.comp scope cl NY { s2 with heap := s2.heap.push { cls := .type "list", data := .seq ([] : List Value).toArray } } (upd H2 s2.heap.objs.size (.lst [])) fp) ([] ++ pinsAt fp s7.heap) σ' H' s' → tn (i + 1) s'.heap ∧ ∀ b ∈ fp, H' b = none := fun I' => by
        refine ⟨T.keep _ _ _ st7 fun b hb o q => (I'.pin (b, o) (List.mem_append_right _ (List.mem_append_right _ (mem_pinsAt hb q)))).1, fun b hb => ?_⟩
        obtain ⟨o, q, d⟩ := T.obj _ _ st7 b hb
        exact (I'.pin (b, o) (List.mem_append_right _ (List.mem_append_right _ (mem_pinsAt hb q)))).2.1
      refine thn (ht _ s8 σ8 H8 _ I8 q8) fun bb s8' ⟨H8', I8', q8'⟩ => ?_
      cases bb with
      | false =>
        have q8' := (show N σ8 H8' by simpa using q8')
        obtain ⟨m', hm, w10⟩ := hN _ _ q8'
        exact ⟨m', hm, i + 1, σ8, _, I8'.unpinned, (pk I8').1, (pk I8').2, w10⟩
      | true =>
        have q8' := (show te σ8 H8' _ by simpa using q8')
        refine thn (he _ s8' σ8 H8' _ I8' q8') fun z s9 ⟨v9, H9, I9, r9, xs, hx9, hz9, n9⟩ => ?_
        refine thn (mt_append _ s9 σ8 H9 (.ref s2.heap.objs.size) [v9] (.ref s2.heap.objs.size) [z] (fun _ H' => H' = upd H9 s2.heap.objs.size (.lst (xs ++ [v9]))) I9 rfl (.cons r9 .nil) ⟨s2.heap.objs.size, xs, v9, rfl, rfl, hx9, hz9, rfl⟩) fun y s10 ⟨v10, H10, I10, _, e10⟩ => ?_
        subst e10
        obtain ⟨m', hm, w10⟩ := hN _ _ n9
        exact ⟨m', hm, i + 1, σ8, _, I10.unpinned, (pk I10).1, (pk I10).2, w10⟩
  exact codeAny_compStart_list loop (T.self _ 0 _ _ _ st4 loop)
/-- y = [e for x in it if t], y a plain local name -/
theorem ps_compF0 {iter elt tst : Expr} {scope : Scope} {pos pos' spos : Pos} {cl : List (Str × Addr)} {NY : List Str} {wi : TI} {g : TG} {tt : TT} {te : TE} {σ0 : St → Hp → St → Prop} {i : Nat} {y : Str} (hc : X.calm = true) (S : ∀ {pins σ H s}, Inv X pins σ H s → Sees X scope cl) (hi : PI X tg iter wi)
    (hY : ∀ (s3 : Shared) (H3 : Hp) (fp : List Addr), PG (X.comp scope cl NY s3 H3 fp) tg g ∧ PT (X.comp scope cl NY s3 H3 fp) tst tt ∧ PE (X.comp scope cl NY s3 H3 fp) elt te)
    (h0 : ∀ (pins : List (Addr × Obj)) (σ : St) (H : Hp) (s3 : Shared) (σY : St), Inv X pins σ H s3 → σ0 σ H σY → σY.length = NY.length ∧ ∀ (i : Nat) (x : Str) (v : V), NY[i]? = some x → σY[i]? = some (some v) →
      ∃ c u, (((compEnvC scope cl 0 X.env).kindOf x = some .cell ∨ (compEnvC scope cl 0 X.env).kindOf x = some .free)) ∧ cl.lookup x = some c ∧ RelV v u ∧ s3.heap.IsCell c (some u))
    (hs : ∀ x, foldedSetIterable iter X.env x = pure x) (hN : X.N.Nodup) (hi' : X.N[i]? = some y) (hx : Loc X.env.scope y) (hf : X.fn y = true ∨ X.env.scope.names.lookup y = some .local)
    (hw : swapsWith (.ListComp elt [⟨tg, iter, [tst], 0⟩] scope pos) (some (.Name y pos')) spos.line X.env = pure true) : PS X (.Assign [.Name y pos'] (.ListComp elt [⟨tg, iter, [tst], 0⟩] scope pos) spos) (tAsg (tCompF wi g tt te σ0) (gName i)) := by
  intro pins s σ H D I h
  rw [exec_Assign_Name_used _ _ _ _ hw, arm_evalThenUse_ListComp]
  refine wpAny_bind (wpAny_standAt (wpAny_bind (wpAny_bind (wpAny_mono (comp_coreF (use := some (assign (.Name y pos') X.env)) (R := fun _ s' => SP X pins D .next s') hc (S I) hi hY h0 hs I h fun C L H5 s6 e q => ?_) (fun _ s' z => wpAny_pure (wpAny_pure z)) fun _ _ z => z))))
  obtain ⟨m, hm⟩ := e.ns
  have I6 : Inv X pins σ H5 s6 := e.inv s6.heap ⟨rfl, fun _ _ => rfl⟩
  refine wpAny_assign_Name (store_ok2 I6 hN hi' hx (v := .ref L) rfl (fun s' I' ⟨a, sb, ha⟩ => ?_) hf)
  have ne : C ≠ a := by
    rintro rfl
    rcases ha with z | z
    · exact e.hL z
    · exact e.h2 _ _ z rfl
  refine ⟨m, ?_, fun h' hs' => ?_⟩
  · obtain ⟨o, es, ep, z, r⟩ := hm
    exact ⟨o, es, ep, (sb.2 _ ne).trans z, r⟩
  · exact ⟨_, H5, I'.turned (t' := s'.toks) (it := C) (fun b o nb z => (hs'.2 b nb).trans z) e.hn e.hL (.inr e.h1) e.h2 e.h3, q⟩
end
abbrev tCompFC (wi : TI) (g : TG) (tt : TT) (te : TE) (cap : List (Option Nat)) : TE := tCompF wi g tt te fun σ _ σY => σY = capt cap σ
section
variable {X : Cx} {tg : Expr}
theorem ps_compF {iter elt tst : Expr} {scope : Scope} {pos pos' spos : Pos} {wi : TI} {g : TG} {tt : TT} {te : TE} {i : Nat} {y : Str} (NY : List Str) (cap : List (Option Nat)) (hc : X.calm = true) (hk : seesOk X scope = true) (hcap : capOk X scope NY cap = true) (hi : PI X tg iter wi)
    (hY : ∀ (s3 : Shared) (H3 : Hp) (fp : List Addr), PG (X.comp scope (clOf X.env scope) NY s3 H3 fp) tg g ∧ PT (X.comp scope (clOf X.env scope) NY s3 H3 fp) tst tt ∧ PE (X.comp scope (clOf X.env scope) NY s3 H3 fp) elt te) (hN : X.N.Nodup) (hi' : X.N[i]? = some y) (hx : Loc X.env.scope y)
    (hf : X.fn y = true ∨ X.env.scope.names.lookup y = some .local := by first | exact .inl rfl | exact .inr rfl) (hw : swapsWith (.ListComp elt [⟨tg, iter, [tst], 0⟩] scope pos) (some (.Name y pos')) spos.line X.env = pure true := by rfl)
    (hs : ∀ x, foldedSetIterable iter X.env x = pure x := by intro _; rfl) : PS X (.Assign [.Name y pos'] (.ListComp elt [⟨tg, iter, [tst], 0⟩] scope pos) spos) (tAsg (tCompFC wi g tt te cap) (gName i)) := by
  refine ps_compF0 (NY := NY) hc (fun I => sees_of I.ok hk) hi hY (fun pins σ H s3 σY I3 e => ?_) hs hN hi' hx hf hw
  subst e
  exact capt_ok I3 (sees_of I3.ok hk) hcap
end
/-! ### its two usual walks -/
theorem compF_list {K : PySem.W.Frag} {a D : Addr} {xs : List V} {g : TG} {tt : TT} {te : TE} {σY : St} {H1 : Hp} {Q : VK} (Pv : Nat → St → Hp → Prop) (h0 : Pv 0 σY H1) (hl : ∀ i σ H, i ≤ xs.length → Pv i σ H → SqL K H a xs)
    (hs : ∀ i x σ H, xs[i]? = some x → Pv i σ H → g x σ H fun σ3 H3 => tt σ3 H3 fun b H4 => if b = true then te σ3 H4 fun v H5 => ∃ ys, H5 D = some (.lst ys) ∧ ys.length < sizeLine ∧ Pv (i + 1) σ3 (upd H5 D (.lst (ys ++ [v]))) else Pv (i + 1) σ3 H4) (hd : ∀ σ H, Pv xs.length σ H → Q (.ref D) H) :
    CompWF (Itl K a) g tt te σY H1 D Q := by
  refine ⟨fun i m σ H => m = xs.length - i ∧ i ≤ xs.length ∧ Pv i σ H, ⟨xs.length, by simp, Nat.zero_le _, h0⟩, ?_⟩
  rintro i m σ H ⟨rfl, hi, p⟩
  have q := hl i σ H hi p
  by_cases hlt : i < xs.length
  · refine .inr ⟨⟨xs, xs[i], q, by simp [hlt]⟩, Pv (i + 1), fun σ' H' p' => ⟨xs.length - (i + 1), by omega, rfl, hlt, p'⟩, fun x H' y => ?_⟩
    obtain ⟨e, y⟩ := y
    subst e
    exact hs i x σ _ (y xs q) p
  · have e : i = xs.length := by omega
    subst e
    exact .inl ⟨⟨xs, q, Nat.le_refl _⟩, hd σ H p⟩
theorem compF_range {lo : Int} {n : Nat} {D : Addr} {g : TG} {tt : TT} {te : TE} {σY : St} {H1 : Hp} {Q : VK} (Pv : Nat → St → Hp → Prop) (h0 : Pv 0 σY H1)
    (hs : ∀ i σ H, i < n → Pv i σ H → g (.int (lo + i)) σ H fun σ3 H3 => tt σ3 H3 fun b H4 => if b = true then te σ3 H4 fun v H5 => ∃ ys, H5 D = some (.lst ys) ∧ ys.length < sizeLine ∧ Pv (i + 1) σ3 (upd H5 D (.lst (ys ++ [v]))) else Pv (i + 1) σ3 H4) (hd : ∀ σ H, Pv n σ H → Q (.ref D) H) :
    CompWF (Itr lo n) g tt te σY H1 D Q := by
  refine ⟨fun i m σ H => m = n - i ∧ i ≤ n ∧ Pv i σ H, ⟨n, by simp, Nat.zero_le _, h0⟩, ?_⟩
  rintro i m σ H ⟨rfl, hi, p⟩
  by_cases hlt : i < n
  · refine .inr ⟨hlt, Pv (i + 1), fun σ' H' p' => ⟨n - (i + 1), by omega, rfl, hlt, p'⟩, fun x H' y => ?_⟩
    obtain ⟨e, y⟩ := y
    subst e y
    exact hs i σ _ hlt p
  · have e : i = n := by omega
    subst e
    exact .inl ⟨Nat.le_refl _, hd σ H p⟩
end L2

namespace K16
open PySem L2 FM
def top (i : Nat) : Stmt := PySem.Challenge.pw_rowbreadth_k16_fold_and_running.main.body.getD i (.Pass ⟨0, 0, 0, 0⟩)

abbrev s_kept : Stmt := top 7
theorem sc_kept : FnScope ["number"] ["number"] (defScope s_kept) := ⟨rfl, rfl, rfl, by decide +kernel, rfl, by decide +kernel, by decide +kernel⟩
abbrev s_plus : Stmt := top 8
theorem sc_plus : FnScope ["left", "right"] ["left", "right"] (defScope s_plus) := ⟨rfl, rfl, rfl, by decide +kernel, rfl, by decide +kernel, by decide +kernel⟩
abbrev s_minus : Stmt := top 9
theorem sc_minus : FnScope ["left", "right"] ["left", "right"] (defScope s_minus) := ⟨rfl, rfl, rfl, by decide +kernel, rfl, by decide +kernel, by decide +kernel⟩
abbrev s_times : Stmt := top 10
theorem sc_times : FnScope ["left", "right"] ["left", "right"] (defScope s_times) := ⟨rfl, rfl, rfl, by decide +kernel, rfl, by decide +kernel, by decide +kernel⟩
abbrev s_refuse_nought : Stmt := top 11
theorem sc_refuse_nought : FnScope ["right"] ["right"] (defScope s_refuse_nought) := ⟨rfl, rfl, rfl, by decide +kernel, rfl, by decide +kernel, by decide +kernel⟩
abbrev s_quotient : Stmt := top 12
theorem sc_quotient : FnScope ["left", "right"] ["left", "right"] (defScope s_quotient) := ⟨rfl, rfl, rfl, by decide +kernel, rfl, by decide +kernel, by decide +kernel⟩
abbrev s_remainder : Stmt := top 13
theorem sc_remainder : FnScope ["left", "right"] ["left", "right"] (defScope s_remainder) := ⟨rfl, rfl, rfl, by decide +kernel, rfl, by decide +kernel, by decide +kernel⟩
abbrev s_lesser : Stmt := top 14
theorem sc_lesser : FnScope ["left", "right"] ["left", "right"] (defScope s_lesser) := ⟨rfl, rfl, rfl, by decide +kernel, rfl, by decide +kernel, by decide +kernel⟩
abbrev s_greater : Stmt := top 15
theorem sc_greater : FnScope ["left", "right"] ["left", "right"] (defScope s_greater) := ⟨rfl, rfl, rfl, by decide +kernel, rfl, by decide +kernel, by decide +kernel⟩
abbrev s_is_less : Stmt := top 16
theorem sc_is_less : FnScope ["left", "right"] ["left", "right"] (defScope s_is_less) := ⟨rfl, rfl, rfl, by decide +kernel, rfl, by decide +kernel, by decide +kernel⟩
abbrev s_is_equal : Stmt := top 17
theorem sc_is_equal : FnScope ["left", "right"] ["left", "right"] (defScope s_is_equal) := ⟨rfl, rfl, rfl, by decide +kernel, rfl, by decide +kernel, by decide +kernel⟩
abbrev s_bits_of_both : Stmt := top 18
theorem sc_bits_of_both : FnScope ["left", "right"] ["left", "right"] (defScope s_bits_of_both) := ⟨rfl, rfl, rfl, by decide +kernel, rfl, by decide +kernel, by decide +kernel⟩
abbrev s_bits_of_either : Stmt := top 19
theorem sc_bits_of_either : FnScope ["left", "right"] ["left", "right"] (defScope s_bits_of_either) := ⟨rfl, rfl, rfl, by decide +kernel, rfl, by decide +kernel, by decide +kernel⟩
abbrev s_bits_of_one : Stmt := top 20
theorem sc_bits_of_one : FnScope ["left", "right"] ["left", "right"] (defScope s_bits_of_one) := ⟨rfl, rfl, rfl, by decide +kernel, rfl, by decide +kernel, by decide +kernel⟩
abbrev s_chained : Stmt := top 21
theorem sc_chained : FnScope ["run", "number"] ["run", "number"] (defScope s_chained) := ⟨rfl, rfl, rfl, by decide +kernel, rfl, by decide +kernel, by decide +kernel⟩
abbrev s_capped : Stmt := top 22
theorem sc_capped : FnScope ["run", "number"] ["run", "number"] (defScope s_capped) := ⟨rfl, rfl, rfl, by decide +kernel, rfl, by decide +kernel, by decide +kernel⟩
abbrev s_done : Stmt := top 26
theorem sc_done : FnScope ["sign", "left", "right"] ["sign", "left", "right"] (defScope s_done) := ⟨rfl, rfl, rfl, by decide +kernel, rfl, by decide +kernel, by decide +kernel⟩
abbrev s_free : Stmt := top 27
theorem sc_free : FnScope ["fold"] ["fold"] (defScope s_free) := ⟨rfl, rfl, rfl, by decide +kernel, rfl, by decide +kernel, by decide +kernel⟩
abbrev s_joined : Stmt := top 28
theorem sc_joined : FnScope ["fold", "run", "number"] ["fold", "run", "number"] (defScope s_joined) := ⟨rfl, rfl, rfl, by decide +kernel, rfl, by decide +kernel, by decide +kernel⟩
abbrev s_start_of : Stmt := top 30
theorem sc_start_of : FnScope ["lengths", "row"] ["lengths", "row"] (defScope s_start_of) := ⟨rfl, rfl, rfl, by decide +kernel, rfl, by decide +kernel, by decide +kernel⟩
abbrev s_part_of : Stmt := top 31
abbrev s_lies_in : Stmt := top 34
theorem sc_lies_in : FnScope ["spot", "row", "place"] ["spot", "row", "place"] (defScope s_lies_in) := ⟨rfl, rfl, rfl, by decide +kernel, rfl, by decide +kernel, by decide +kernel⟩
abbrev s_cell_at : Stmt := top 35
theorem sc_cell_at : FnScope ["spot", "row", "place"] ["spot", "row", "place"] (defScope s_cell_at) := ⟨rfl, rfl, rfl, by decide +kernel, rfl, by decide +kernel, by decide +kernel⟩
abbrev s_count_of : Stmt := top 53
theorem sc_count_of : FnScope ["steps", "count", "step"] ["steps"] (defScope s_count_of) := ⟨rfl, rfl, rfl, by decide +kernel, rfl, by decide +kernel, by decide +kernel⟩
abbrev s_is_passed_over : Stmt := top 55
theorem sc_is_passed_over : FnScope ["spot", "step"] ["spot", "step"] (defScope s_is_passed_over) := ⟨rfl, rfl, rfl, by decide +kernel, rfl, by decide +kernel, by decide +kernel⟩
abbrev s_number_to_lay : Stmt := top 56
theorem sc_number_to_lay : FnScope ["spot", "step", "run", "number"] ["spot", "step", "run"] (defScope s_number_to_lay) := ⟨rfl, rfl, rfl, by decide +kernel, rfl, by decide +kernel, by decide +kernel⟩
abbrev s_place_put : Stmt := top 57
theorem sc_place_put : FnScope ["spot", "step", "place"] ["spot", "step"] (defScope s_place_put) := ⟨rfl, rfl, rfl, by decide +kernel, rfl, by decide +kernel, by decide +kernel⟩
abbrev s_place_to_lay : Stmt := top 58
theorem sc_place_to_lay : FnScope ["spot", "step"] ["spot", "step"] (defScope s_place_to_lay) := ⟨rfl, rfl, rfl, by decide +kernel, rfl, by decide +kernel, by decide +kernel⟩
abbrev s_element_played : Stmt := top 59
theorem sc_element_played : FnScope ["spot", "step", "run", "number", "place"] ["spot", "step", "run"] (defScope s_element_played) := ⟨rfl, rfl, rfl, by decide +kernel, rfl, by decide +kernel, by decide +kernel⟩
abbrev s_elements_played : Stmt := top 60
theorem sc_elements_played : FnScope ["program", "cells", "step", "number", "run", "place", "spot"] ["program", "cells", "step", "number"] (defScope s_elements_played) := ⟨rfl, rfl, rfl, by decide +kernel, rfl, by decide +kernel, by decide +kernel⟩
abbrev s_till_played : Stmt := top 61
theorem sc_till_played : FnScope ["program", "cells", "till", "number", "turns", "refusal"] ["program", "cells", "till", "number"] (defScope s_till_played) := ⟨rfl, rfl, rfl, by decide +kernel, rfl, by decide +kernel, by decide +kernel⟩
abbrev s_steps_played : Stmt := top 62
theorem sc_steps_played : FnScope ["program", "cells", "steps", "first", "number", "step", "refusal"] ["program", "cells", "steps", "first"] (defScope s_steps_played) := ⟨rfl, rfl, rfl, by decide +kernel, rfl, by decide +kernel, by decide +kernel⟩
abbrev s_played : Stmt := top 63
theorem sc_played : FnScope ["program", "cells", "behind", "refusal"] ["program", "cells"] (defScope s_played) := ⟨rfl, rfl, rfl, by decide +kernel, rfl, by decide +kernel, by decide +kernel⟩
abbrev s_l_whole : Stmt := top 65
theorem sc_l_whole : FnScope ["_law_found"] ["_law_found"] (defScope s_l_whole) := ⟨rfl, rfl, rfl, by decide +kernel, rfl, by decide +kernel, by decide +kernel⟩
abbrev s_l_kept_by : Stmt := top 66
theorem sc_l_kept_by : FnScope ["_law_cell", "_law_how", "_law_edges"] ["_law_cell"] (defScope s_l_kept_by) := ⟨rfl, rfl, rfl, by decide +kernel, rfl, by decide +kernel, by decide +kernel⟩
abbrev s_l_mix : Stmt := top 67
theorem sc_l_mix : FnScope ["_law_cell", "_law_factor", "_law_prime"] ["_law_cell", "_law_factor", "_law_prime"] (defScope s_l_mix) := ⟨rfl, rfl, rfl, by decide +kernel, rfl, by decide +kernel, by decide +kernel⟩
abbrev s_l_asked : Stmt := top 68
theorem sc_l_asked : FnScope ["_law_form", "_law_spot", "_law_found", "_law_kind", "e"] ["_law_form", "_law_spot"] (defScope s_l_asked) := ⟨rfl, rfl, rfl, by decide +kernel, rfl, by decide +kernel, by decide +kernel⟩
abbrev s_l_functions : Stmt := top 69
theorem sc_l_functions : FnScope ["_law_one"] [] (defScope s_l_functions) := ⟨rfl, rfl, rfl, by decide +kernel, rfl, by decide +kernel, by decide +kernel⟩
abbrev s_l_leaf_by : Stmt := top 70
theorem sc_l_leaf_by : FnScope ["_law_cell", "_law_rows", "_law_far", "_law_lengths", "_law_how", "_law_rest", "_law_row", "_law_by", "_law_place"] ["_law_cell", "_law_rows", "_law_far", "_law_lengths"] (defScope s_l_leaf_by) := ⟨rfl, rfl, rfl, by decide +kernel, rfl, by decide +kernel, by decide +kernel⟩
abbrev s_l_value_by : Stmt := top 71
theorem sc_l_value_by : FnScope ["_law_cell", "_law_rows", "_law_far", "_law_lengths", "_law_signs", "_law_how", "_law_one", "_law_two"] ["_law_cell", "_law_rows", "_law_far", "_law_lengths"] (defScope s_l_value_by) := ⟨rfl, rfl, rfl, by decide +kernel, rfl, by decide +kernel, by decide +kernel⟩
abbrev s_l_lengths_by : Stmt := top 72
theorem sc_l_lengths_by : FnScope ["_law_script", "_law_wide", "_law_many", "_law_lengths", "_law_cell"] ["_law_script", "_law_wide"] (defScope s_l_lengths_by) := ⟨rfl, rfl, rfl, by decide +kernel, rfl, by decide +kernel, by decide +kernel⟩
abbrev s_l_cells_by : Stmt := top 73
theorem sc_l_cells_by : FnScope ["_law_script", "_law_lengths", "_law_cells", "_law_k"] ["_law_script", "_law_lengths"] (defScope s_l_cells_by) := ⟨rfl, rfl, rfl, by decide +kernel, rfl, by decide +kernel, by decide +kernel⟩
abbrev s_l_element : Stmt := top 74
theorem sc_l_element : FnScope ["_law_step", "_law_spot", "_law_test"] ["_law_step", "_law_spot"] (defScope s_l_element) := ⟨rfl, rfl, rfl, by decide +kernel, rfl, by decide +kernel, by decide +kernel⟩
abbrev s_l_told : Stmt := top 75
theorem sc_l_told : FnScope ["_law_found", "_law_due_here", "_law_number"] ["_law_found", "_law_due_here"] (defScope s_l_told) := ⟨rfl, rfl, rfl, by decide +kernel, rfl, by decide +kernel, by decide +kernel⟩
abbrev s_l_joined : Stmt := top 76
theorem sc_l_joined : FnScope ["_law_fold", "_law_run", "_law_number", "_law_due_here"] ["_law_fold", "_law_run", "_law_number"] (defScope s_l_joined) := ⟨rfl, rfl, rfl, by decide +kernel, rfl, by decide +kernel, by decide +kernel⟩
abbrev s_l_fold_by : Stmt := top 77
theorem sc_l_fold_by : FnScope ["_law_cell", "_law_folds"] ["_law_cell"] (defScope s_l_fold_by) := ⟨rfl, rfl, rfl, by decide +kernel, rfl, by decide +kernel, by decide +kernel⟩
abbrev s_l_target_by : Stmt := top 78
theorem sc_l_target_by : FnScope ["_law_cell", "_law_lengths", "_law_target", "_law_ones", "_law_row"] ["_law_cell", "_law_lengths"] (defScope s_l_target_by) := ⟨rfl, rfl, rfl, by decide +kernel, rfl, by decide +kernel, by decide +kernel⟩
abbrev s_l_many_by : Stmt := top 79
theorem sc_l_many_by : FnScope ["_law_cell", "_law_lengths"] ["_law_cell", "_law_lengths"] (defScope s_l_many_by) := ⟨rfl, rfl, rfl, by decide +kernel, rfl, by decide +kernel, by decide +kernel⟩
abbrev s_l_step_by : Stmt := top 80
theorem sc_l_step_by : FnScope ["_law_cell", "_law_lengths", "_law_target", "_law_many", "_law_far", "_law_row", "_law_near", "_law_rows", "_law_value", "_law_test"] ["_law_cell", "_law_lengths"] (defScope s_l_step_by) := ⟨rfl, rfl, rfl, by decide +kernel, rfl, by decide +kernel, by decide +kernel⟩
abbrev s_l_due : Stmt := top 81
theorem sc_l_due : FnScope ["_law_step", "_law_lengths", "_law_functions_here", "_law_cells", "_law_many", "_law_now", "_law_start", "_law_run", "_law_place", "_law_got"] ["_law_step", "_law_lengths", "_law_functions_here", "_law_cells", "_law_many"] (defScope s_l_due) := ⟨rfl, rfl, rfl, by decide +kernel, rfl, by decide +kernel, by decide +kernel⟩
abbrev s_law : Stmt := top 82
theorem sc_law : FnScope ["_law_script", "_law_lengths", "_law_functions_here", "_law_cells", "_law_cell", "_law_step", "_law_many", "_law_due_here", "_law_handed", "_law_found"] ["_law_script"] (defScope s_law) := ⟨rfl, rfl, rfl, by decide +kernel, rfl, by decide +kernel, by decide +kernel⟩
abbrev s_Spot_init : Stmt := inClass (top 33) 0
theorem sc_Spot_init : FnScope ["self", "lengths", "functions", "cells", "place", "own"] ["self", "lengths", "functions", "cells", "place", "own"] (defScope s_Spot_init) := ⟨rfl, rfl, rfl, by decide +kernel, rfl, by decide +kernel, by decide +kernel⟩
abbrev s_Number_init : Stmt := inClass (top 37) 0
theorem sc_Number_init : FnScope ["self", "number"] ["self", "number"] (defScope s_Number_init) := ⟨rfl, rfl, rfl, by decide +kernel, rfl, by decide +kernel, by decide +kernel⟩
abbrev s_Number_worth : Stmt := inClass (top 37) 1
theorem sc_Number_worth : FnScope ["self", "spot"] ["self", "spot"] (defScope s_Number_worth) := ⟨rfl, rfl, rfl, by decide +kernel, rfl, by decide +kernel, by decide +kernel⟩
abbrev s_Here_worth : Stmt := inClass (top 38) 0
theorem sc_Here_worth : FnScope ["self", "spot"] ["self", "spot"] (defScope s_Here_worth) := ⟨rfl, rfl, rfl, by decide +kernel, rfl, by decide +kernel, by decide +kernel⟩
abbrev s_Cell_init : Stmt := inClass (top 39) 0
theorem sc_Cell_init : FnScope ["self", "row"] ["self", "row"] (defScope s_Cell_init) := ⟨rfl, rfl, rfl, by decide +kernel, rfl, by decide +kernel, by decide +kernel⟩
abbrev s_Cell_worth : Stmt := inClass (top 39) 1
theorem sc_Cell_worth : FnScope ["self", "spot"] ["self", "spot"] (defScope s_Cell_worth) := ⟨rfl, rfl, rfl, by decide +kernel, rfl, by decide +kernel, by decide +kernel⟩
abbrev s_Shifted_init : Stmt := inClass (top 40) 0
theorem sc_Shifted_init : FnScope ["self", "row", "by", "other"] ["self", "row", "by", "other"] (defScope s_Shifted_init) := ⟨rfl, rfl, rfl, by decide +kernel, rfl, by decide +kernel, by decide +kernel⟩
abbrev s_Shifted_worth : Stmt := inClass (top 40) 1
theorem sc_Shifted_worth : FnScope ["self", "spot", "place"] ["self", "spot"] (defScope s_Shifted_worth) := ⟨rfl, rfl, rfl, by decide +kernel, rfl, by decide +kernel, by decide +kernel⟩
abbrev s_Local_init : Stmt := inClass (top 41) 0
theorem sc_Local_init : FnScope ["self", "at"] ["self", "at"] (defScope s_Local_init) := ⟨rfl, rfl, rfl, by decide +kernel, rfl, by decide +kernel, by decide +kernel⟩
abbrev s_Local_worth : Stmt := inClass (top 41) 1
theorem sc_Local_worth : FnScope ["self", "spot"] ["self", "spot"] (defScope s_Local_worth) := ⟨rfl, rfl, rfl, by decide +kernel, rfl, by decide +kernel, by decide +kernel⟩
abbrev s_At_init : Stmt := inClass (top 42) 0
theorem sc_At_init : FnScope ["self", "row", "place"] ["self", "row", "place"] (defScope s_At_init) := ⟨rfl, rfl, rfl, by decide +kernel, rfl, by decide +kernel, by decide +kernel⟩
abbrev s_At_worth : Stmt := inClass (top 42) 1
theorem sc_At_worth : FnScope ["self", "spot", "place"] ["self", "spot"] (defScope s_At_worth) := ⟨rfl, rfl, rfl, by decide +kernel, rfl, by decide +kernel, by decide +kernel⟩
abbrev s_Pair_init : Stmt := inClass (top 43) 0
theorem sc_Pair_init : FnScope ["self", "sign", "left", "right"] ["self", "sign", "left", "right"] (defScope s_Pair_init) := ⟨rfl, rfl, rfl, by decide +kernel, rfl, by decide +kernel, by decide +kernel⟩
abbrev s_Pair_worth : Stmt := inClass (top 43) 1
theorem sc_Pair_worth : FnScope ["self", "spot", "left", "right"] ["self", "spot"] (defScope s_Pair_worth) := ⟨rfl, rfl, rfl, by decide +kernel, rfl, by decide +kernel, by decide +kernel⟩
abbrev s_Choice_init : Stmt := inClass (top 44) 0
theorem sc_Choice_init : FnScope ["self", "test", "left", "right"] ["self", "test", "left", "right"] (defScope s_Choice_init) := ⟨rfl, rfl, rfl, by decide +kernel, rfl, by decide +kernel, by decide +kernel⟩
abbrev s_Choice_worth : Stmt := inClass (top 44) 1
theorem sc_Choice_worth : FnScope ["self", "spot"] ["self", "spot"] (defScope s_Choice_worth) := ⟨rfl, rfl, rfl, by decide +kernel, rfl, by decide +kernel, by decide +kernel⟩
abbrev s_Call_init : Stmt := inClass (top 45) 0
theorem sc_Call_init : FnScope ["self", "at", "handed"] ["self", "at", "handed"] (defScope s_Call_init) := ⟨rfl, rfl, rfl, by decide +kernel, rfl, by decide +kernel, by decide +kernel⟩
abbrev s_Call_worth : Stmt := inClass (top 45) 1
theorem sc_Call_worth : FnScope ["self", "spot", "own", "form", "body"] ["self", "spot"] (defScope s_Call_worth) := ⟨rfl, rfl, rfl, by decide +kernel, rfl, by decide +kernel, by decide +kernel⟩
abbrev s_Put_init : Stmt := inClass (top 48) 0
abbrev s_Put_many_of : Stmt := inClass (top 48) 1
abbrev s_Fold_init : Stmt := inClass (top 49) 0
theorem sc_Fold_init : FnScope ["self", "target", "fold", "value", "many", "test"] ["self", "target", "fold", "value", "many", "test"] (defScope s_Fold_init) := ⟨rfl, rfl, rfl, by decide +kernel, rfl, by decide +kernel, by decide +kernel⟩
abbrev s_Fold_many_of : Stmt := inClass (top 49) 1
theorem sc_Fold_many_of : FnScope ["self", "lengths"] ["self", "lengths"] (defScope s_Fold_many_of) := ⟨rfl, rfl, rfl, by decide +kernel, rfl, by decide +kernel, by decide +kernel⟩
abbrev s_Running_init : Stmt := inClass (top 50) 0
theorem sc_Running_init : FnScope ["self", "target", "fold", "value", "test"] ["self", "target", "fold", "value", "test"] (defScope s_Running_init) := ⟨rfl, rfl, rfl, by decide +kernel, rfl, by decide +kernel, by decide +kernel⟩
abbrev s_Running_many_of : Stmt := inClass (top 50) 1
theorem sc_Running_many_of : FnScope ["self", "lengths"] ["self", "lengths"] (defScope s_Running_many_of) := ⟨rfl, rfl, rfl, by decide +kernel, rfl, by decide +kernel, by decide +kernel⟩
abbrev s_Till_init : Stmt := inClass (top 51) 0
abbrev s_Program_init : Stmt := inClass (top 52) 0
theorem sc_Program_init : FnScope ["self", "lengths", "functions", "steps"] ["self", "lengths", "functions", "steps"] (defScope s_Program_init) := ⟨rfl, rfl, rfl, by decide +kernel, rfl, by decide +kernel, by decide +kernel⟩

section
variable {P : Program} {w : World} {K : PySem.W.Frag} {mg : Str → Option Value} {base : Heap}
theorem ok_kept {t : Tok} (d : DefIn K mg "kept" s_kept ["number"]) (hH : mg "HALF" = some (.int 9223372036854775808 t)) : Ok P w K mg base (CXe P w base) 1 "kept" ["number"] (sp1 fun n => .int (kept n)) := by
  obtain ⟨f, fd, m, F, b⟩ := d
  refine ⟨f, fd, m, F.kp, b, F.okE sc_kept len1 fun cdv A outer s H vs Q E hr h => ?_⟩
  obtain ⟨n, rfl, k⟩ := h
  refine ⟨_, pss_one (ps_ret (pe_op op_sub (pe_op op_mod (pe_op op_add (pv 0) (pe_gint hH)) (pe_op op_mul pe_int (pe_gint hH))) (pe_gint hH))), ?_⟩
  exact ⟨_, rfl, _, _, rfl, rfl, _, _, rfl, rfl, .inl ⟨by decide, by decide⟩, _, _, rfl, rfl, (by show (0 : Int) < 2 * 9223372036854775808; decide), _, _, rfl, rfl, k⟩
abbrev GK (P : Program) (w : World) (K : PySem.W.Frag) (mg : Str → Option Value) (base : Heap) : Prop := Ok P w K mg base (CXe P w base) 1 "kept" ["number"] (sp1 fun n => .int (kept n))
theorem ok_plus (d : DefIn K mg "plus" s_plus ["left", "right"]) (G : GK P w K mg base) : Ok P w K mg base (CXe P w base) 2 "plus" ["left", "right"] (sp2 (fun _ _ => True) fun a b => kept (a + b)) := by
  obtain ⟨f, fd, m, F, b⟩ := d
  refine ⟨f, fd, m, F.kp, b, F.okE sc_plus len2 fun cdv A outer s H vs Q E hr h => ?_⟩
  obtain ⟨x, y, rfl, _, k⟩ := h
  refine ⟨_, pss_one (ps_ret (pe_ok G hr rfl passE (pa_cons (pe_op op_add (pv 0) (pv 1)) pa_nil))), ?_⟩
  exact ⟨_, rfl, _, rfl, _, _, rfl, rfl, _, rfl, k⟩
theorem ok_minus (d : DefIn K mg "minus" s_minus ["left", "right"]) (G : GK P w K mg base) : Ok P w K mg base (CXe P w base) 2 "minus" ["left", "right"] (sp2 (fun _ _ => True) fun a b => kept (a - b)) := by
  obtain ⟨f, fd, m, F, b⟩ := d
  refine ⟨f, fd, m, F.kp, b, F.okE sc_minus len2 fun cdv A outer s H vs Q E hr h => ?_⟩
  obtain ⟨x, y, rfl, _, k⟩ := h
  refine ⟨_, pss_one (ps_ret (pe_ok G hr rfl passE (pa_cons (pe_op op_sub (pv 0) (pv 1)) pa_nil))), ?_⟩
  exact ⟨_, rfl, _, rfl, _, _, rfl, rfl, _, rfl, k⟩
theorem ok_times (d : DefIn K mg "times" s_times ["left", "right"]) (G : GK P w K mg base) : Ok P w K mg base (CXe P w base) 2 "times" ["left", "right"] (sp2 (fun a _ => Kin a) fun a b => kept (a * b)) := by
  obtain ⟨f, fd, m, F, b⟩ := d
  refine ⟨f, fd, m, F.kp, b, F.okE sc_times len2 fun cdv A outer s H vs Q E hr h => ?_⟩
  obtain ⟨x, y, rfl, c, k⟩ := h
  refine ⟨_, pss_one (ps_ret (pe_ok G hr rfl passE (pa_cons (pe_op op_mul (pv 0) (pv 1)) pa_nil))), ?_⟩
  exact ⟨_, rfl, _, rfl, _, _, rfl, rfl, .inl ⟨by omega, by omega⟩, _, rfl, k⟩
def spNo (CN : Addr) : Sp := fun vs H Q E => ∃ b, vs = [.int b] ∧ (b = 0 → E (.ref CN) none H) ∧ (b ≠ 0 → Q .non H)
theorem ok_refuse {CN : Addr} {bm : List Value} {B newId initId : String} (d : DefIn K mg "refuse_nought" s_refuse_nought ["right"]) (O : PyProof.Rows.OwnCls "ByNought" CN bm newId mg base) (FB : ExcBaseFacts B newId initId bm) :
    Ok P w K mg base (CXe P w base) 1 "refuse_nought" ["right"] (spNo CN) := by
  obtain ⟨f, fd, m, F, b⟩ := d
  refine ⟨f, fd, m, F.kp, b, F.okE sc_refuse_nought (fun vs H Q E ⟨b, e, _⟩ => by rw [e]; rfl) fun cdv A outer s H vs Q E hr h => ?_⟩
  obtain ⟨y, rfl, k0, k1⟩ := h
  refine ⟨_, pss_one (ps_if (pt_cmpR op_eq (pv 0) pe_int (nomark _)) (pss_one (ps_raise O FB rfl rfl throwE (pa_cons pe_str pa_nil))) pss_nil), ?_⟩
  refine ⟨_, rfl, rfl, _, rfl, ?_⟩
  by_cases z : y = 0
  · rw [decide_eq_true (by rw [z])]
    exact iteT ⟨by show 1 ≤ sizeLine; decide, k0 z⟩
  · rw [decide_eq_false (by intro q; cases q; exact z rfl)]
    exact iteF (k1 z)
def spQ (CN : Addr) (g : Int → Int → Int) : Sp := fun vs H Q E => ∃ a b, vs = [.int a, .int b] ∧ Kin b ∧ (b = 0 → E (.ref CN) none H) ∧ (b ≠ 0 → Q (.int (g a b)) H)
theorem ok_quotient {CN : Addr} (d : DefIn K mg "quotient" s_quotient ["left", "right"]) (G : GK P w K mg base) (GN : Ok P w K mg base (CXe P w base) 1 "refuse_nought" ["right"] (spNo CN)) :
    Ok P w K mg base (CXe P w base) 2 "quotient" ["left", "right"] (spQ CN fun a b => kept (a.fdiv b)) := by
  obtain ⟨f, fd, m, F, b⟩ := d
  refine ⟨f, fd, m, F.kp, b, F.okE sc_quotient (fun vs H Q E ⟨a, b, e, _⟩ => by rw [e]; rfl) fun cdv A outer s H vs Q E hr h => ?_⟩
  obtain ⟨x, y, rfl, hb, k0, k1⟩ := h
  refine ⟨_, pss_cons (ps_expr (pe_ok GN hr rfl passE (pa_cons (pv 1) pa_nil))) (pss_one (ps_ret (pe_ok G hr rfl passE (pa_cons (pe_op op_fdivB (pv 0) (pv 1)) pa_nil)))), ?_⟩
  refine ⟨_, rfl, y, rfl, k0, fun z => ?_⟩
  exact ⟨_, rfl, _, rfl, _, _, rfl, rfl, ⟨z, by omega, by omega⟩, _, rfl, k1 z⟩
theorem ok_remainder {CN : Addr} (d : DefIn K mg "remainder" s_remainder ["left", "right"]) (GN : Ok P w K mg base (CXe P w base) 1 "refuse_nought" ["right"] (spNo CN)) :
    Ok P w K mg base (CXe P w base) 2 "remainder" ["left", "right"] (spQ CN fun a b => a.fmod b) := by
  obtain ⟨f, fd, m, F, b⟩ := d
  refine ⟨f, fd, m, F.kp, b, F.okE sc_remainder (fun vs H Q E ⟨a, b, e, _⟩ => by rw [e]; rfl) fun cdv A outer s H vs Q E hr h => ?_⟩
  obtain ⟨x, y, rfl, hb, k0, k1⟩ := h
  refine ⟨_, pss_cons (ps_expr (pe_ok GN hr rfl passE (pa_cons (pv 1) pa_nil))) (pss_one (ps_ret (pe_op op_modN (pv 0) (pv 1)))), ?_⟩
  refine ⟨_, rfl, y, rfl, k0, fun z => ?_⟩
  exact ⟨_, rfl, _, rfl, _, _, rfl, rfl, z, k1 z⟩
theorem ok_lesser (d : DefIn K mg "lesser" s_lesser ["left", "right"]) (hm : mg "min" = none) : Ok P w K mg base (CXe P w base) 2 "lesser" ["left", "right"] (sp2 (fun _ _ => True) fun a b => if b < a then b else a) := by
  obtain ⟨f, fd, m, F, b⟩ := d
  refine ⟨f, fd, m, F.kp, b, F.okE sc_lesser len2 fun cdv A outer s H vs Q E hr h => ?_⟩
  obtain ⟨x, y, rfl, _, k⟩ := h
  refine ⟨_, pss_one (ps_ret (pe_callB (call_min2 rfl) rfl hm PyProof.Rows.boot_min (pa_cons (pv 0) (pa_cons (pv 1) pa_nil)))), ?_⟩
  exact ⟨_, rfl, _, rfl, _, _, rfl, k⟩
theorem ok_greater (d : DefIn K mg "greater" s_greater ["left", "right"]) (hm : mg "max" = none) : Ok P w K mg base (CXe P w base) 2 "greater" ["left", "right"] (sp2 (fun _ _ => True) fun a b => if b > a then b else a) := by
  obtain ⟨f, fd, m, F, b⟩ := d
  refine ⟨f, fd, m, F.kp, b, F.okE sc_greater len2 fun cdv A outer s H vs Q E hr h => ?_⟩
  obtain ⟨x, y, rfl, _, k⟩ := h
  refine ⟨_, pss_one (ps_ret (pe_callB (call_max2 rfl) rfl hm PyProof.Rows.boot_max (pa_cons (pv 0) (pa_cons (pv 1) pa_nil)))), ?_⟩
  exact ⟨_, rfl, _, rfl, _, _, rfl, k⟩
theorem ok_is_less (d : DefIn K mg "is_less" s_is_less ["left", "right"]) : Ok P w K mg base (CXe P w base) 2 "is_less" ["left", "right"] (sp2 (fun _ _ => True) fun a b => if a < b then 1 else 0) := by
  obtain ⟨f, fd, m, F, b⟩ := d
  refine ⟨f, fd, m, F.kp, b, F.okE sc_is_less len2 fun cdv A outer s H vs Q E hr h => ?_⟩
  obtain ⟨x, y, rfl, _, k⟩ := h
  refine ⟨_, pss_one (ps_ret (pe_ifExp (pt_cmpR op_lt (pv 0) (pv 1) (nomark _)) pe_int pe_int)), ?_⟩
  refine ⟨_, rfl, _, rfl, _, _, rfl, rfl, _, rfl, ?_⟩
  dsimp only at k ⊢
  by_cases z : x < y
  · rw [if_pos z] at k; rw [decide_eq_true z]; exact iteT k
  · rw [if_neg z] at k; rw [decide_eq_false z]; exact iteF k
theorem ok_is_equal (d : DefIn K mg "is_equal" s_is_equal ["left", "right"]) : Ok P w K mg base (CXe P w base) 2 "is_equal" ["left", "right"] (sp2 (fun _ _ => True) fun a b => if a = b then 1 else 0) := by
  obtain ⟨f, fd, m, F, b⟩ := d
  refine ⟨f, fd, m, F.kp, b, F.okE sc_is_equal len2 fun cdv A outer s H vs Q E hr h => ?_⟩
  obtain ⟨x, y, rfl, _, k⟩ := h
  refine ⟨_, pss_one (ps_ret (pe_ifExp (pt_cmpR op_eq (pv 0) (pv 1) (nomark _)) pe_int pe_int)), ?_⟩
  refine ⟨_, rfl, _, rfl, rfl, _, rfl, ?_⟩
  dsimp only at k ⊢
  by_cases z : x = y
  · rw [if_pos z] at k; rw [decide_eq_true (by rw [z])]; exact iteT k
  · rw [if_neg z] at k; rw [decide_eq_false (by intro q; cases q; exact z rfl)]; exact iteF k
theorem ok_both (d : DefIn K mg "bits_of_both" s_bits_of_both ["left", "right"]) : Ok P w K mg base (CXe P w base) 2 "bits_of_both" ["left", "right"] (sp2 (fun _ _ => True) Builtin.bitAnd) := by
  obtain ⟨f, fd, m, F, b⟩ := d
  refine ⟨f, fd, m, F.kp, b, F.okE sc_bits_of_both len2 fun cdv A outer s H vs Q E hr h => ?_⟩
  obtain ⟨x, y, rfl, _, k⟩ := h
  exact ⟨_, pss_one (ps_ret (pe_op op_and (pv 0) (pv 1))), _, rfl, _, rfl, _, _, rfl, rfl, k⟩
theorem ok_either (d : DefIn K mg "bits_of_either" s_bits_of_either ["left", "right"]) : Ok P w K mg base (CXe P w base) 2 "bits_of_either" ["left", "right"] (sp2 (fun _ _ => True) Builtin.bitOr) := by
  obtain ⟨f, fd, m, F, b⟩ := d
  refine ⟨f, fd, m, F.kp, b, F.okE sc_bits_of_either len2 fun cdv A outer s H vs Q E hr h => ?_⟩
  obtain ⟨x, y, rfl, _, k⟩ := h
  exact ⟨_, pss_one (ps_ret (pe_op op_or (pv 0) (pv 1))), _, rfl, _, rfl, _, _, rfl, rfl, k⟩
theorem ok_one (d : DefIn K mg "bits_of_one" s_bits_of_one ["left", "right"]) : Ok P w K mg base (CXe P w base) 2 "bits_of_one" ["left", "right"] (sp2 (fun _ _ => True) Builtin.bitXor) := by
  obtain ⟨f, fd, m, F, b⟩ := d
  refine ⟨f, fd, m, F.kp, b, F.okE sc_bits_of_one len2 fun cdv A outer s H vs Q E hr h => ?_⟩
  obtain ⟨x, y, rfl, _, k⟩ := h
  exact ⟨_, pss_one (ps_ret (pe_op op_xor (pv 0) (pv 1))), _, rfl, _, rfl, _, _, rfl, rfl, k⟩
def spDone (CN : Addr) : Sp := fun vs H Q E => ∃ sg a b, vs = [.str sg, .int a, .int b] ∧ sg ∈ signs ∧ Kin a ∧ Kin b ∧ (∀ r, doneR sg a b = some r → Q (.int r) H) ∧ (doneR sg a b = none → E (.ref CN) none H)
def SignAt (K : PySem.W.Frag) (mg : Str → Option Value) (aS : Addr) (sg nm : Str) : Prop := ∃ f, PySem.W.nsIn K aS sg = some (some (.ref f)) ∧ mg nm = some (.ref f)
structure Signs (K : PySem.W.Frag) (mg : Str → Option Value) (aS : Addr) : Prop where
  s1 : SignAt K mg aS "+" "plus"
  s2 : SignAt K mg aS "-" "minus"
  s3 : SignAt K mg aS "*" "times"
  s4 : SignAt K mg aS "/" "quotient"
  s5 : SignAt K mg aS "rest" "remainder"
  s6 : SignAt K mg aS "least" "lesser"
  s7 : SignAt K mg aS "most" "greater"
  s8 : SignAt K mg aS "<" "is_less"
  s9 : SignAt K mg aS "=" "is_equal"
  s10 : SignAt K mg aS "&" "bits_of_both"
  s11 : SignAt K mg aS "|" "bits_of_either"
  s12 : SignAt K mg aS "^" "bits_of_one"
abbrev O2 (P : Program) (w : World) (K : PySem.W.Frag) (mg : Str → Option Value) (base : Heap) (nm : Str) (sp : Sp) : Prop := Ok P w K mg base (CXe P w base) 2 nm ["left", "right"] sp
structure Fns (P : Program) (w : World) (K : PySem.W.Frag) (mg : Str → Option Value) (base : Heap) (CN : Addr) : Prop where
  f1 : O2 P w K mg base "plus" (sp2 (fun _ _ => True) fun a b => kept (a + b))
  f2 : O2 P w K mg base "minus" (sp2 (fun _ _ => True) fun a b => kept (a - b))
  f3 : O2 P w K mg base "times" (sp2 (fun a _ => Kin a) fun a b => kept (a * b))
  f4 : O2 P w K mg base "quotient" (spQ CN fun a b => kept (a.fdiv b))
  f5 : O2 P w K mg base "remainder" (spQ CN fun a b => a.fmod b)
  f6 : O2 P w K mg base "lesser" (sp2 (fun _ _ => True) fun a b => if b < a then b else a)
  f7 : O2 P w K mg base "greater" (sp2 (fun _ _ => True) fun a b => if b > a then b else a)
  f8 : O2 P w K mg base "is_less" (sp2 (fun _ _ => True) fun a b => if a < b then 1 else 0)
  f9 : O2 P w K mg base "is_equal" (sp2 (fun _ _ => True) fun a b => if a = b then 1 else 0)
  f10 : O2 P w K mg base "bits_of_both" (sp2 (fun _ _ => True) Builtin.bitAnd)
  f11 : O2 P w K mg base "bits_of_either" (sp2 (fun _ _ => True) Builtin.bitOr)
  f12 : O2 P w K mg base "bits_of_one" (sp2 (fun _ _ => True) Builtin.bitXor)
theorem ok_done {CN aS : Addr} (d : DefIn K mg "done" s_done ["sign", "left", "right"]) (hS : mg "SIGNS" = some (.ref aS)) (T : TopDict w K aS) (S : Signs K mg aS) (f : Fns P w K mg base CN) :
    Ok P w K mg base (CXe P w base) 3 "done" ["sign", "left", "right"] (spDone CN) := by
  obtain ⟨g, fd, m, F, b⟩ := d
  refine ⟨g, fd, m, F.kp, b, F.okE sc_done (fun vs H Q E ⟨_, _, _, e, _⟩ => by rw [e]; rfl) fun cdv A outer s H vs Q E hr h => ?_⟩
  obtain ⟨sg, x, y, rfl, hs, hx, hy, k1, k2⟩ := h
  refine ⟨_, pss_one (ps_ret (pe_callV (CX := CXe P w base) (k := 2) (pe_ix ix_top (pe_gref hS) (pv 0) (fun _ _ => rfl)) hr passE (pa_cons (pv 1) (pa_cons (pv 2) pa_nil)))), ?_⟩
  have use : ∀ (nm : Str) (sp : Sp), SignAt K mg aS sg nm → O2 P w K mg base nm sp → sp [.int x, .int y] H Q E →
      ∃ (a : Addr) (k : Str) (u : Value) (v : V), V.ref aS = .ref a ∧ V.str sg = .str k ∧ TopDict w K a ∧ PySem.W.nsIn K a k = some (some u) ∧ RelV v u ∧
        ∃ (f : Addr) (fd : FuncData) (ps : List Str) (sp : Sp), v = .ref f ∧ FnOk P w K mg base (CXe P w base) 2 f fd ps sp ∧ PySem.W.keepIn K (.ref f) = true ∧ Binds K fd ps [] ∧ sp [.int x, .int y] H Q E := by
    intro nm sp ⟨f1, e1, m1⟩ ⟨f2, fd2, m2, kp, bb, ok⟩ q
    have e := m1.symm.trans m2
    cases e
    exact ⟨aS, sg, .ref f1, .ref f1, rfl, rfl, T, e1, rfl, f1, fd2, _, sp, rfl, ok, kp, bb, q⟩
  suffices h : ∃ (nm : Str) (sp : Sp), SignAt K mg aS sg nm ∧ O2 P w K mg base nm sp ∧ sp [.int x, .int y] H Q E by
    obtain ⟨nm, sp, a1, a2, a3⟩ := h
    obtain ⟨a, k, u, v, e1, e2, t, e3, r, f, fd, ps, sp', e4, ok, kp, bb, q⟩ := use nm sp a1 a2 a3
    exact ⟨_, rfl, a, k, u, v, e1, e2, t, e3, r, f, fd, ps, sp', e4, ok, kp, bb, _, rfl, _, rfl, q⟩
  simp only [signs, List.mem_cons, List.not_mem_nil, or_false] at hs
  rcases hs with rfl | rfl | rfl | rfl | rfl | rfl | rfl | rfl | rfl | rfl | rfl | rfl
  · exact ⟨_, _, S.s1, f.f1, x, y, rfl, trivial, k1 _ rfl⟩
  · exact ⟨_, _, S.s2, f.f2, x, y, rfl, trivial, k1 _ rfl⟩
  · exact ⟨_, _, S.s3, f.f3, x, y, rfl, hx, k1 _ rfl⟩
  · exact ⟨_, _, S.s4, f.f4, x, y, rfl, hy, fun z => k2 (by show (if y = 0 then none else some _) = none; rw [if_pos z]), fun z => k1 _ (by show (if y = 0 then none else some _) = some _; rw [if_neg z])⟩
  · exact ⟨_, _, S.s5, f.f5, x, y, rfl, hy, fun z => k2 (by show (if y = 0 then none else some _) = none; rw [if_pos z]), fun z => k1 _ (by show (if y = 0 then none else some _) = some _; rw [if_neg z])⟩
  · exact ⟨_, _, S.s6, f.f6, x, y, rfl, trivial, k1 _ rfl⟩
  · exact ⟨_, _, S.s7, f.f7, x, y, rfl, trivial, k1 _ rfl⟩
  · exact ⟨_, _, S.s8, f.f8, x, y, rfl, trivial, k1 _ rfl⟩
  · exact ⟨_, _, S.s9, f.f9, x, y, rfl, trivial, k1 _ rfl⟩
  · exact ⟨_, _, S.s10, f.f10, x, y, rfl, trivial, k1 _ rfl⟩
  · exact ⟨_, _, S.s11, f.f11, x, y, rfl, trivial, k1 _ rfl⟩
  · exact ⟨_, _, S.s12, f.f12, x, y, rfl, trivial, k1 _ rfl⟩
def spKB : Sp := fun vs H Q _ => ∃ c, vs = [.int c] ∧ ∀ H', Same H H' → Q (.int (keptBy c)) H'
theorem ok_kept_by (d : DefIn K mg "_law_kept_by" s_l_kept_by ["_law_cell"]) : Ok P w K mg base (CXe P w base) 1 "_law_kept_by" ["_law_cell"] spKB := by
  obtain ⟨f, fd, m, F, b⟩ := d
  refine ⟨f, fd, m, F.kp, b, F.okE sc_l_kept_by (fun vs H Q E ⟨_, e, _⟩ => by rw [e]; rfl) fun cdv A outer s H vs Q E hr h => ?_⟩
  obtain ⟨c, rfl, k⟩ := h
  have nd := sc_l_kept_by.nd
  refine ⟨_, pss_cons (ps_set (i := 1) nd rfl (Or.inl rfl) (pe_op op_mod (pv 0) pe_int))
    (pss_cons (ps_if (pt_cmpR op_eq (pv 1) pe_int (nomark _)) (pss_one (ps_ret (pe_op op_sub (pe_op op_mod (pe_op op_fdiv (pv 0) pe_int) pe_int) pe_int))) pss_nil)
    (pss_cons (ps_if (pt_cmpR op_eq (pv 1) pe_int (nomark _)) (pss_cons (ps_set (i := 2) nd rfl (Or.inl rfl) (pe_lst (pa_cons (pe_un un_neg pe_int) (pa_cons pe_int (pa_cons (pe_un un_neg pe_int) (pa_cons pe_int (pa_cons (pe_un un_neg pe_int) (pa_cons pe_int pa_nil))))))))
      (pss_one (ps_ret (pe_ix ix_list (pv 2) (pe_op op_mod (pe_op op_fdiv (pv 0) pe_int) pe_int) (fun _ _ => rfl))))) pss_nil)
    (pss_cons (ps_if (pt_cmpR op_eq (pv 1) pe_int (nomark _)) (pss_one (ps_ret (pe_op op_sub (pe_op op_mod (pe_op op_mul (pe_op op_fdiv (pv 0) pe_int) pe_int) pe_int) pe_int))) pss_nil)
    (pss_one (ps_ret (pe_op op_sub (pe_op op_mod (pe_op op_mul (pe_op op_fdiv (pv 0) pe_int) pe_int) pe_int) pe_int)))))), ?_⟩
  refine ⟨_, rfl, _, _, rfl, rfl, (by show (0 : Int) < 4; decide), ?_⟩
  refine ⟨_, rfl, rfl, _, rfl, ?_⟩
  refine ite2 (fun z => ?_) (fun z => ?_)
  · have z : c % 4 = 0 := by simpa using z
    have e : keptBy c = c / 4 % 7 - 3 := by unfold keptBy; rw [if_pos z]
    rw [e] at k
    exact ⟨_, rfl, _, _, rfl, rfl, ⟨by decide, by decide⟩, _, _, rfl, rfl, (by show (0 : Int) < 7; decide), _, _, rfl, rfl, k H (Same.refl H)⟩
  have z0 : ¬ c % 4 = 0 := by simpa using z
  refine ⟨_, rfl, rfl, _, rfl, ?_⟩
  refine ite2 (fun z => ?_) (fun z => ?_)
  · have z1 : c % 4 = 1 := by simpa using z
    have e : keptBy c = edges.getD (c / 4 % 6).toNat 0 := by unfold keptBy; rw [if_neg z0, if_pos z1]
    rw [e] at k
    refine ⟨_, rfl, _, rfl, _, rfl, (by show 6 ≤ sizeLine; decide), fun l hl => ?_⟩
    refine ⟨_, rfl, _, rfl, _, _, rfl, rfl, ⟨by decide, by decide⟩, _, _, rfl, rfl, (by show (0 : Int) < 6; decide), l, edges.map V.int, _, V.int (edges.getD (c / 4 % 6).toNat 0), rfl, rfl, SqL.of upd_same, ?_, k _ fun b o q => by rw [upd_ne (ne_of_none q hl)]; exact q⟩
    have hz : (((c / 4 % 6).toNat : Nat) : Int) = c / 4 % 6 := by omega
    rw [← hz]
    exact atI_nat (edge_at _ (by omega)).1
  have z1 : ¬ c % 4 = 1 := by simpa using z
  refine ⟨_, rfl, rfl, _, rfl, ?_⟩
  refine ite2 (fun z => ?_) (fun z => ?_)
  · have z2 : c % 4 = 2 := by simpa using z
    have e : keptBy c = c / 4 * 48271 % 2001 - 1000 := by unfold keptBy; rw [if_neg z0, if_neg z1, if_pos z2]
    rw [e] at k
    exact ⟨_, rfl, _, _, rfl, rfl, ⟨by decide, by decide⟩, _, _, rfl, rfl, .inr ⟨by decide, by decide⟩, _, _, rfl, rfl, (by show (0 : Int) < 2001; decide), _, _, rfl, rfl, k H (Same.refl H)⟩
  have z2 : ¬ c % 4 = 2 := by simpa using z
  have e : keptBy c = c / 4 * 2862933555777941757 % 18446744073709551616 - 9223372036854775808 := by unfold keptBy; rw [if_neg z0, if_neg z1, if_neg z2]
  rw [e] at k
  exact ⟨_, rfl, _, _, rfl, rfl, ⟨by decide, by decide⟩, _, _, rfl, rfl, .inr ⟨by decide, by decide⟩, _, _, rfl, rfl, (by show (0 : Int) < 18446744073709551616; decide), _, _, rfl, rfl, k H (Same.refl H)⟩
structure Ints (K : PySem.W.Frag) (mg : Str → Option Value) : Prop where
  isi : mg "isinstance" = none
  int : mg "int" = none
  bool : mg "bool" = none
  ii : PySem.W.kitOne K (.type "int") (.type "int") = some true
  ib : PySem.W.kitOne K (.type "int") (.type "bool") = some false
theorem ok_whole (d : DefIn K mg "_law_whole" s_l_whole ["_law_found"]) (N : Ints K mg) : Ok P w K mg base (CXe P w base) 1 "_law_whole" ["_law_found"] (sp1 fun _ => .bl true) := by
  obtain ⟨f, fd, m, F, b⟩ := d
  refine ⟨f, fd, m, F.kp, b, F.okE sc_l_whole len1 fun cdv A outer s H vs Q E hr h => ?_⟩
  obtain ⟨n, rfl, k⟩ := h
  refine ⟨_, pss_one (ps_ret (pe_and (pe_callB call_isinst rfl N.isi PyProof.Rows.boot_isinstance (pa_cons (pv 0) (pa_cons (pe_bty N.int PyProof.Rows.boot_int) pa_nil)))
    (pe_one (pe_not (pe_callB call_isinst rfl N.isi PyProof.Rows.boot_isinstance (pa_cons (pv 0) (pa_cons (pe_bty N.bool PyProof.Rows.boot_bool) pa_nil))))))), ?_⟩
  refine ⟨_, rfl, _, _, .type "int", .type "int", true, rfl, rfl, (fun u r => r), .inl (.int n), N.ii, true, rfl, ?_⟩
  exact iteT ⟨_, rfl, _, _, .type "bool", .type "int", false, rfl, rfl, (fun u r => r), .inl (.int n), N.ib, false, rfl, k⟩
def spStart (K : PySem.W.Frag) : Sp := fun vs H Q _ => ∃ (p : Addr) (ns : List Int) (r : Int), vs = [.ref p, .int r] ∧ SqL K H p (ns.map V.int) ∧ 0 ≤ r ∧ ∀ H', Same H H' → Q (.int (ns.take r.toNat).sum) H'
theorem ok_start (d : DefIn K mg "start_of" s_start_of ["lengths", "row"]) (hsum : mg "sum" = none) : Ok P w K mg base (CXe P w base) 1 "start_of" ["lengths", "row"] (spStart K) := by
  obtain ⟨g, fd, m, F, b⟩ := d
  refine ⟨g, fd, m, F.kp, b, F.okE sc_start_of (fun vs H Q E ⟨_, _, _, e, _⟩ => by rw [e]; rfl) fun cdv A outer s H vs Q E hr h => ?_⟩
  obtain ⟨p, ns, r, rfl, hS, h0, k⟩ := h
  refine ⟨_, pss_one (ps_ret (pe_callB (call_sum rfl) rfl hsum PyProof.Rows.boot_sum (pa_cons (pe_slice sl_list (pv 0) po_none (po_some (pv 1))) pa_nil))), ?_⟩
  refine ⟨_, rfl, _, rfl, r, rfl, p, _, rfl, hS, fun l hl => ?_⟩
  rw [cutV_take h0]
  exact ⟨l, _, rfl, SqL.of upd_same, k _ (same_upd (Same.refl H) hl)⟩
def spMix : Sp := fun vs H Q _ => ∃ c f p : Int, vs = [.int c, .int f, .int p] ∧ 0 < f ∧ f < 18446744073709551616 ∧ 0 < p ∧ Q (.int (c * f % p)) H
theorem ok_mix (d : DefIn K mg "_law_mix" s_l_mix ["_law_cell", "_law_factor", "_law_prime"]) : Ok P w K mg base (CXe P w base) 1 "_law_mix" ["_law_cell", "_law_factor", "_law_prime"] spMix := by
  obtain ⟨g, fd, m, F, b⟩ := d
  refine ⟨g, fd, m, F.kp, b, F.okE sc_l_mix (fun vs H Q E ⟨_, _, _, e, _⟩ => by rw [e]; rfl) fun cdv A outer s H vs Q E hr h => ?_⟩
  obtain ⟨c, f, p, rfl, h0, h1, h2, k⟩ := h
  refine ⟨_, (pss_one (ps_ret (pe_op op_mod (pe_op op_mul (pv 0) (pv 1)) (pv 2)))), ?_⟩
  exact ⟨_, rfl, _, rfl, _, _, rfl, rfl, .inr ⟨by omega, by omega⟩, _, rfl, _, _, rfl, rfl, h2, k⟩
structure SpotC (K : PySem.W.Frag) (C : Addr) : Prop where
  c : Cls K C
  n0 : NoAttr K C "lengths"
  n1 : NoAttr K C "functions"
  n2 : NoAttr K C "cells"
  n3 : NoAttr K C "place"
  n4 : NoAttr K C "own"
def spLies (c : Cs) (K : PySem.W.Frag) : Sp := fun vs H Q _ => ∃ (s : Addr) (S : SpotD) (r q : Int), vs = [.ref s, .int r, .int q] ∧ SpotAt c K H s S ∧ S.has r ∧ Q (.bl (decide (0 ≤ q ∧ q < S.len r))) H
theorem ok_lies {c : Cs} (d : DefIn K mg "lies_in" s_lies_in ["spot", "row", "place"]) (sc : SpotC K c.spot) : Ok P w K mg base (CXe P w base) 1 "lies_in" ["spot", "row", "place"] (spLies c K) := by
  obtain ⟨f, fd, m, F, bd⟩ := d
  refine ⟨f, fd, m, F.kp, bd, F.okE sc_lies_in (fun vs H Q E ⟨_, _, _, _, e, _⟩ => by rw [e]; rfl) fun cdv A outer s H vs Q E hr h => ?_⟩
  obtain ⟨s, S, r, q, rfl, hs, hr', k⟩ := h
  obtain ⟨dx, l, f', e, o, h1, h2, h3, h4⟩ := hs.ex
  refine ⟨_, (pss_one (ps_ret (pe_chain op_le op_lt pe_int (pv 2) (pe_ix ix_list (pe_fld (pv 0) rfl) (pv 1) (fun _ _ => rfl))))), ?_⟩
  refine ⟨_, rfl, _, _, rfl, rfl, _, rfl, ?_⟩
  by_cases z : 0 ≤ q
  · rw [if_pos (decide_eq_true z)]
    refine ⟨_, rfl, s, c.spot, dx, _, .ref l, rfl, h1, sc.c, sc.n0, rfl, _, rfl, l, _, _, _, rfl, rfl, h2, at_int r.toNat hr'.2 (by have := hr'.1; omega), _, _, rfl, rfl, ?_⟩
    have e : decide (0 ≤ q ∧ q < S.len r) = decide (q < S.lens.getD r.toNat 0) := by
      unfold SpotD.len
      simp [z]
    rw [e] at k
    exact k
  · rw [if_neg (by simp [z])]
    have e : decide (0 ≤ q ∧ q < S.len r) = false := decide_eq_false (fun y => z y.1)
    rw [e] at k
    exact k
def spCell (c : Cs) (K : PySem.W.Frag) : Sp := fun vs H Q _ => ∃ (s : Addr) (S : SpotD) (r q : Int), vs = [.ref s, .int r, .int q] ∧ SpotAt c K H s S ∧ 0 ≤ r ∧ 0 ≤ S.start r + q ∧ S.start r + q < S.cells.length ∧ ∀ H', Same H H' → Q (.int (S.cellAt r q)) H'
theorem ok_cell {c : Cs} (d : DefIn K mg "cell_at" s_cell_at ["spot", "row", "place"]) (sc : SpotC K c.spot) (SO : Ok P w K mg base (CXe P w base) 1 "start_of" ["lengths", "row"] (spStart K)) : Ok P w K mg base (CXe P w base) 2 "cell_at" ["spot", "row", "place"] (spCell c K) := by
  obtain ⟨f, fd, m, F, bd⟩ := d
  refine ⟨f, fd, m, F.kp, bd, F.okE sc_cell_at (fun vs H Q E ⟨_, _, _, _, e, _⟩ => by rw [e]; rfl) fun cdv A outer s H vs Q E hr h => ?_⟩
  obtain ⟨s, S, r, q, rfl, hs, hr', h5, h6, k⟩ := h
  obtain ⟨dx, l, f', e, o, h1, h2, h3, h4⟩ := hs.ex
  have hr1 := hr
  refine ⟨_, (pss_one (ps_ret (pe_ix ix_list (pe_fld (pv 0) rfl) (pe_op op_add (pe_ok SO hr1 rfl passE (pa_cons (pe_fld (pv 0) rfl) (pa_cons (pv 1) pa_nil))) (pv 2)) (fun _ _ => rfl)))), ?_⟩
  refine ⟨_, rfl, s, c.spot, dx, _, .ref e, rfl, h1, sc.c, sc.n2, rfl, _, rfl, s, c.spot, dx, _, .ref l, rfl, h1, sc.c, sc.n0, rfl, _, rfl, l, S.lens, r, rfl, h2, hr', fun H' s' => ?_⟩
  exact ⟨_, rfl, _, _, rfl, rfl, e, _, _, _, rfl, rfl, sql_same h3 s', at_int (S.start r + q).toNat (by omega) (by show S.start r + q = _; omega), k H' s'⟩
def spI_Spot (C : Addr) : Sp := fun vs H Q _ => ∃ (x dx : Addr) (u0 u1 u2 u3 u4 : V), vs = [.ref x, u0, u1, u2, u3, u4] ∧ H x = some (.ins C dx []) ∧ ∀ H', (∀ b o, b ≠ x → H b = some o → H' b = some o) → H' x = some (.ins C dx [("lengths", u0), ("functions", u1), ("cells", u2), ("place", u3), ("own", u4)]) → Q .non H'
theorem okI_Spot {C : Addr} (d : InitIn K C "Spot.__init__" s_Spot_init ["self", "lengths", "functions", "cells", "place", "own"]) (cl : Cls K C) (n0 : NoAttr K C "lengths") (n1 : NoAttr K C "functions") (n2 : NoAttr K C "cells") (n3 : NoAttr K C "place") (n4 : NoAttr K C "own") : OkI P w K mg base (CXe P w base) 1 C ["self", "lengths", "functions", "cells", "place", "own"] (spI_Spot C) := by
  obtain ⟨f, fd, m, F, bd⟩ := d
  refine ⟨f, fd, m, bd, F.okE sc_Spot_init (fun vs H Q E ⟨_, _, _, _, _, _, _, e, _⟩ => by rw [e]; rfl) fun cdv A outer s H vs Q E hr h => ?_⟩
  obtain ⟨x, dx, u0, u1, u2, u3, u4, rfl, hx, k⟩ := h
  refine ⟨_, (pss_cons (ps_fld (pv 0) (pv 1) rfl) (pss_cons (ps_fld (pv 0) (pv 2) rfl) (pss_cons (ps_fld (pv 0) (pv 3) rfl) (pss_cons (ps_fld (pv 0) (pv 4) rfl) (pss_one (ps_fld (pv 0) (pv 5) rfl)))))), ?_⟩
  refine ⟨_, rfl, _, rfl, x, C, dx, [], rfl, hx, cl, n0, (by show 0 < 1000; decide), ?_⟩
  refine ⟨_, rfl, _, rfl, x, C, dx, [("lengths", u0)], rfl, upd_same, cl, n1, (by show 1 < 1000; decide), ?_⟩
  refine ⟨_, rfl, _, rfl, x, C, dx, [("lengths", u0), ("functions", u1)], rfl, upd_same, cl, n2, (by show 2 < 1000; decide), ?_⟩
  refine ⟨_, rfl, _, rfl, x, C, dx, [("lengths", u0), ("functions", u1), ("cells", u2)], rfl, upd_same, cl, n3, (by show 3 < 1000; decide), ?_⟩
  refine ⟨_, rfl, _, rfl, x, C, dx, [("lengths", u0), ("functions", u1), ("cells", u2), ("place", u3)], rfl, upd_same, cl, n4, (by show 4 < 1000; decide), ?_⟩
  exact k _ (fun b o nb z => by
    rw [upd_ne nb, upd_ne nb, upd_ne nb, upd_ne nb, upd_ne nb]
    exact z) upd_same
def spI_Number (C : Addr) : Sp := fun vs H Q _ => ∃ (x dx : Addr) (u0 : V), vs = [.ref x, u0] ∧ H x = some (.ins C dx []) ∧ ∀ H', (∀ b o, b ≠ x → H b = some o → H' b = some o) → H' x = some (.ins C dx [("number", u0)]) → Q .non H'
theorem okI_Number {C : Addr} (d : InitIn K C "Number.__init__" s_Number_init ["self", "number"]) (cl : Cls K C) (n0 : NoAttr K C "number") : OkI P w K mg base (CXe P w base) 1 C ["self", "number"] (spI_Number C) := by
  obtain ⟨f, fd, m, F, bd⟩ := d
  refine ⟨f, fd, m, bd, F.okE sc_Number_init (fun vs H Q E ⟨_, _, _, e, _⟩ => by rw [e]; rfl) fun cdv A outer s H vs Q E hr h => ?_⟩
  obtain ⟨x, dx, u0, rfl, hx, k⟩ := h
  refine ⟨_, (pss_one (ps_fld (pv 0) (pv 1) rfl)), ?_⟩
  refine ⟨_, rfl, _, rfl, x, C, dx, [], rfl, hx, cl, n0, (by show 0 < 1000; decide), ?_⟩
  exact k _ (fun b o nb z => by
    rw [upd_ne nb]
    exact z) upd_same
def spI_Cell (C : Addr) : Sp := fun vs H Q _ => ∃ (x dx : Addr) (u0 : V), vs = [.ref x, u0] ∧ H x = some (.ins C dx []) ∧ ∀ H', (∀ b o, b ≠ x → H b = some o → H' b = some o) → H' x = some (.ins C dx [("row", u0)]) → Q .non H'
theorem okI_Cell {C : Addr} (d : InitIn K C "Cell.__init__" s_Cell_init ["self", "row"]) (cl : Cls K C) (n0 : NoAttr K C "row") : OkI P w K mg base (CXe P w base) 1 C ["self", "row"] (spI_Cell C) := by
  obtain ⟨f, fd, m, F, bd⟩ := d
  refine ⟨f, fd, m, bd, F.okE sc_Cell_init (fun vs H Q E ⟨_, _, _, e, _⟩ => by rw [e]; rfl) fun cdv A outer s H vs Q E hr h => ?_⟩
  obtain ⟨x, dx, u0, rfl, hx, k⟩ := h
  refine ⟨_, (pss_one (ps_fld (pv 0) (pv 1) rfl)), ?_⟩
  refine ⟨_, rfl, _, rfl, x, C, dx, [], rfl, hx, cl, n0, (by show 0 < 1000; decide), ?_⟩
  exact k _ (fun b o nb z => by
    rw [upd_ne nb]
    exact z) upd_same
def spI_Shifted (C : Addr) : Sp := fun vs H Q _ => ∃ (x dx : Addr) (u0 u1 u2 : V), vs = [.ref x, u0, u1, u2] ∧ H x = some (.ins C dx []) ∧ ∀ H', (∀ b o, b ≠ x → H b = some o → H' b = some o) → H' x = some (.ins C dx [("row", u0), ("by", u1), ("other", u2)]) → Q .non H'
theorem okI_Shifted {C : Addr} (d : InitIn K C "Shifted.__init__" s_Shifted_init ["self", "row", "by", "other"]) (cl : Cls K C) (n0 : NoAttr K C "row") (n1 : NoAttr K C "by") (n2 : NoAttr K C "other") : OkI P w K mg base (CXe P w base) 1 C ["self", "row", "by", "other"] (spI_Shifted C) := by
  obtain ⟨f, fd, m, F, bd⟩ := d
  refine ⟨f, fd, m, bd, F.okE sc_Shifted_init (fun vs H Q E ⟨_, _, _, _, _, e, _⟩ => by rw [e]; rfl) fun cdv A outer s H vs Q E hr h => ?_⟩
  obtain ⟨x, dx, u0, u1, u2, rfl, hx, k⟩ := h
  refine ⟨_, (pss_cons (ps_fld (pv 0) (pv 1) rfl) (pss_cons (ps_fld (pv 0) (pv 2) rfl) (pss_one (ps_fld (pv 0) (pv 3) rfl)))), ?_⟩
  refine ⟨_, rfl, _, rfl, x, C, dx, [], rfl, hx, cl, n0, (by show 0 < 1000; decide), ?_⟩
  refine ⟨_, rfl, _, rfl, x, C, dx, [("row", u0)], rfl, upd_same, cl, n1, (by show 1 < 1000; decide), ?_⟩
  refine ⟨_, rfl, _, rfl, x, C, dx, [("row", u0), ("by", u1)], rfl, upd_same, cl, n2, (by show 2 < 1000; decide), ?_⟩
  exact k _ (fun b o nb z => by
    rw [upd_ne nb, upd_ne nb, upd_ne nb]
    exact z) upd_same
def spI_Local (C : Addr) : Sp := fun vs H Q _ => ∃ (x dx : Addr) (u0 : V), vs = [.ref x, u0] ∧ H x = some (.ins C dx []) ∧ ∀ H', (∀ b o, b ≠ x → H b = some o → H' b = some o) → H' x = some (.ins C dx [("at", u0)]) → Q .non H'
theorem okI_Local {C : Addr} (d : InitIn K C "Local.__init__" s_Local_init ["self", "at"]) (cl : Cls K C) (n0 : NoAttr K C "at") : OkI P w K mg base (CXe P w base) 1 C ["self", "at"] (spI_Local C) := by
  obtain ⟨f, fd, m, F, bd⟩ := d
  refine ⟨f, fd, m, bd, F.okE sc_Local_init (fun vs H Q E ⟨_, _, _, e, _⟩ => by rw [e]; rfl) fun cdv A outer s H vs Q E hr h => ?_⟩
  obtain ⟨x, dx, u0, rfl, hx, k⟩ := h
  refine ⟨_, (pss_one (ps_fld (pv 0) (pv 1) rfl)), ?_⟩
  refine ⟨_, rfl, _, rfl, x, C, dx, [], rfl, hx, cl, n0, (by show 0 < 1000; decide), ?_⟩
  exact k _ (fun b o nb z => by
    rw [upd_ne nb]
    exact z) upd_same
def spI_At (C : Addr) : Sp := fun vs H Q _ => ∃ (x dx : Addr) (u0 u1 : V), vs = [.ref x, u0, u1] ∧ H x = some (.ins C dx []) ∧ ∀ H', (∀ b o, b ≠ x → H b = some o → H' b = some o) → H' x = some (.ins C dx [("row", u0), ("place", u1)]) → Q .non H'
theorem okI_At {C : Addr} (d : InitIn K C "At.__init__" s_At_init ["self", "row", "place"]) (cl : Cls K C) (n0 : NoAttr K C "row") (n1 : NoAttr K C "place") : OkI P w K mg base (CXe P w base) 1 C ["self", "row", "place"] (spI_At C) := by
  obtain ⟨f, fd, m, F, bd⟩ := d
  refine ⟨f, fd, m, bd, F.okE sc_At_init (fun vs H Q E ⟨_, _, _, _, e, _⟩ => by rw [e]; rfl) fun cdv A outer s H vs Q E hr h => ?_⟩
  obtain ⟨x, dx, u0, u1, rfl, hx, k⟩ := h
  refine ⟨_, (pss_cons (ps_fld (pv 0) (pv 1) rfl) (pss_one (ps_fld (pv 0) (pv 2) rfl))), ?_⟩
  refine ⟨_, rfl, _, rfl, x, C, dx, [], rfl, hx, cl, n0, (by show 0 < 1000; decide), ?_⟩
  refine ⟨_, rfl, _, rfl, x, C, dx, [("row", u0)], rfl, upd_same, cl, n1, (by show 1 < 1000; decide), ?_⟩
  exact k _ (fun b o nb z => by
    rw [upd_ne nb, upd_ne nb]
    exact z) upd_same
def spI_Pair (C : Addr) : Sp := fun vs H Q _ => ∃ (x dx : Addr) (u0 u1 u2 : V), vs = [.ref x, u0, u1, u2] ∧ H x = some (.ins C dx []) ∧ ∀ H', (∀ b o, b ≠ x → H b = some o → H' b = some o) → H' x = some (.ins C dx [("sign", u0), ("left", u1), ("right", u2)]) → Q .non H'
theorem okI_Pair {C : Addr} (d : InitIn K C "Pair.__init__" s_Pair_init ["self", "sign", "left", "right"]) (cl : Cls K C) (n0 : NoAttr K C "sign") (n1 : NoAttr K C "left") (n2 : NoAttr K C "right") : OkI P w K mg base (CXe P w base) 1 C ["self", "sign", "left", "right"] (spI_Pair C) := by
  obtain ⟨f, fd, m, F, bd⟩ := d
  refine ⟨f, fd, m, bd, F.okE sc_Pair_init (fun vs H Q E ⟨_, _, _, _, _, e, _⟩ => by rw [e]; rfl) fun cdv A outer s H vs Q E hr h => ?_⟩
  obtain ⟨x, dx, u0, u1, u2, rfl, hx, k⟩ := h
  refine ⟨_, (pss_cons (ps_fld (pv 0) (pv 1) rfl) (pss_cons (ps_fld (pv 0) (pv 2) rfl) (pss_one (ps_fld (pv 0) (pv 3) rfl)))), ?_⟩
  refine ⟨_, rfl, _, rfl, x, C, dx, [], rfl, hx, cl, n0, (by show 0 < 1000; decide), ?_⟩
  refine ⟨_, rfl, _, rfl, x, C, dx, [("sign", u0)], rfl, upd_same, cl, n1, (by show 1 < 1000; decide), ?_⟩
  refine ⟨_, rfl, _, rfl, x, C, dx, [("sign", u0), ("left", u1)], rfl, upd_same, cl, n2, (by show 2 < 1000; decide), ?_⟩
  exact k _ (fun b o nb z => by
    rw [upd_ne nb, upd_ne nb, upd_ne nb]
    exact z) upd_same
def spI_Choice (C : Addr) : Sp := fun vs H Q _ => ∃ (x dx : Addr) (u0 u1 u2 : V), vs = [.ref x, u0, u1, u2] ∧ H x = some (.ins C dx []) ∧ ∀ H', (∀ b o, b ≠ x → H b = some o → H' b = some o) → H' x = some (.ins C dx [("test", u0), ("left", u1), ("right", u2)]) → Q .non H'
theorem okI_Choice {C : Addr} (d : InitIn K C "Choice.__init__" s_Choice_init ["self", "test", "left", "right"]) (cl : Cls K C) (n0 : NoAttr K C "test") (n1 : NoAttr K C "left") (n2 : NoAttr K C "right") : OkI P w K mg base (CXe P w base) 1 C ["self", "test", "left", "right"] (spI_Choice C) := by
  obtain ⟨f, fd, m, F, bd⟩ := d
  refine ⟨f, fd, m, bd, F.okE sc_Choice_init (fun vs H Q E ⟨_, _, _, _, _, e, _⟩ => by rw [e]; rfl) fun cdv A outer s H vs Q E hr h => ?_⟩
  obtain ⟨x, dx, u0, u1, u2, rfl, hx, k⟩ := h
  refine ⟨_, (pss_cons (ps_fld (pv 0) (pv 1) rfl) (pss_cons (ps_fld (pv 0) (pv 2) rfl) (pss_one (ps_fld (pv 0) (pv 3) rfl)))), ?_⟩
  refine ⟨_, rfl, _, rfl, x, C, dx, [], rfl, hx, cl, n0, (by show 0 < 1000; decide), ?_⟩
  refine ⟨_, rfl, _, rfl, x, C, dx, [("test", u0)], rfl, upd_same, cl, n1, (by show 1 < 1000; decide), ?_⟩
  refine ⟨_, rfl, _, rfl, x, C, dx, [("test", u0), ("left", u1)], rfl, upd_same, cl, n2, (by show 2 < 1000; decide), ?_⟩
  exact k _ (fun b o nb z => by
    rw [upd_ne nb, upd_ne nb, upd_ne nb]
    exact z) upd_same
theorem made_same {H H' : Hp} {x dx : Addr} {o1 o2 : HO} (nx : H x = none) (ndx : H dx = none) (k : ∀ b o, b ≠ x → upd (upd H dx o1) x o2 b = some o → H' b = some o) : Same H H' := fun c o z => k c o (ne_of_none z nx) (by rw [upd_ne (ne_of_none z nx), upd_ne (ne_of_none z ndx)]; exact z)
theorem w2_num {c : F2.Cs} {CN OU : Addr} {fs : List F2.Fn} {k : Nat} {n : Int} (d : MethIn K c.num "worth" "Number.worth" s_Number_worth ["self", "spot"]) (cl : Cls K c.num) (n0 : NoAttr K c.num "number")  : F2.Worth P w K mg base c CN OU 1 fs k (.num n) := by
  obtain ⟨f, fd, m, F, bd⟩ := d
  intro x H hx
  obtain ⟨dx, hx0⟩ := id hx
  refine ⟨c.num, dx, _, fun vs H Q E => ∃ (x s : Addr) (S : F2.SpotD), vs = [.ref x, .ref s] ∧ F2.FormAt c H (.num n) x ∧ F2.SpotAt c K H s S fs ∧ FM.SpotOk S ∧ F2.WF fs k S (.num n) ∧ FM.Out CN OU (F2.worth fs k S (.num n)) H Q E, hx0, ⟨cl, f, fd, _, m, F.okE sc_Number_worth (fun vs H Q E ⟨_, _, _, e, _⟩ => by rw [e]; rfl) fun cdv A outer s H vs Q E hr h => ?_, bd⟩, rfl, fun s S Q E H' sH hs ho hw o => ⟨x, s, S, rfl, hx.same sH, hs, ho, hw, o⟩⟩
  obtain ⟨x, s, S, rfl, ⟨dx, hx⟩, hs, ho, hw, o⟩ := h
  refine ⟨_, (pss_one (ps_ret (pe_fld (pv 0) rfl))), ?_⟩
  exact ⟨_, rfl, x, c.num, dx, _, .int n, rfl, hx, cl, n0, rfl, o H (Same.refl _)⟩
theorem w2_here {c : F2.Cs} {CN OU : Addr} {fs : List F2.Fn} {k : Nat}  (d : MethIn K c.here "worth" "Here.worth" s_Here_worth ["self", "spot"]) (cl : Cls K c.here)  (sc : SpotC K c.spot) : F2.Worth P w K mg base c CN OU 1 fs k (.here) := by
  obtain ⟨f, fd, m, F, bd⟩ := d
  intro x H hx
  obtain ⟨dx, hx0⟩ := id hx
  refine ⟨c.here, dx, _, fun vs H Q E => ∃ (x s : Addr) (S : F2.SpotD), vs = [.ref x, .ref s] ∧ F2.FormAt c H (.here) x ∧ F2.SpotAt c K H s S fs ∧ FM.SpotOk S ∧ F2.WF fs k S (.here) ∧ FM.Out CN OU (F2.worth fs k S (.here)) H Q E, hx0, ⟨cl, f, fd, _, m, F.okE sc_Here_worth (fun vs H Q E ⟨_, _, _, e, _⟩ => by rw [e]; rfl) fun cdv A outer s H vs Q E hr h => ?_, bd⟩, rfl, fun s S Q E H' sH hs ho hw o => ⟨x, s, S, rfl, hx.same sH, hs, ho, hw, o⟩⟩
  obtain ⟨x, s, S, rfl, ⟨dx, hx⟩, hs, ho, hw, o⟩ := h
  obtain ⟨dy, l, f', e, ow, h1, h2, h3, h4, h5⟩ := hs.ex
  refine ⟨_, (pss_one (ps_ret (pe_fld (pv 1) rfl))), ?_⟩
  exact ⟨_, rfl, s, c.spot, dy, _, .int S.place, rfl, h1, sc.c, sc.n3, rfl, o H (Same.refl _)⟩
theorem w2_cell {c : F2.Cs} {CN OU : Addr} {fs : List F2.Fn} {k : Nat} {r : Int} (d : MethIn K c.cell "worth" "Cell.worth" s_Cell_worth ["self", "spot"]) (cl : Cls K c.cell) (n0 : NoAttr K c.cell "row") (sc : SpotC K c.spot) (CL : Ok P w K mg base (CXe P w base) 2 "cell_at" ["spot", "row", "place"] (spCell c.toCs K)) : F2.Worth P w K mg base c CN OU 3 fs k (.cell r) := by
  obtain ⟨f, fd, m, F, bd⟩ := d
  intro x H hx
  obtain ⟨dx, hx0⟩ := id hx
  refine ⟨c.cell, dx, _, fun vs H Q E => ∃ (x s : Addr) (S : F2.SpotD), vs = [.ref x, .ref s] ∧ F2.FormAt c H (.cell r) x ∧ F2.SpotAt c K H s S fs ∧ FM.SpotOk S ∧ F2.WF fs k S (.cell r) ∧ FM.Out CN OU (F2.worth fs k S (.cell r)) H Q E, hx0, ⟨cl, f, fd, _, m, F.okE sc_Cell_worth (fun vs H Q E ⟨_, _, _, e, _⟩ => by rw [e]; rfl) fun cdv A outer s H vs Q E hr h => ?_, bd⟩, rfl, fun s S Q E H' sH hs ho hw o => ⟨x, s, S, rfl, hx.same sH, hs, ho, hw, o⟩⟩
  obtain ⟨x, s, S, rfl, ⟨dx, hx⟩, hs, ho, hw, o⟩ := h
  obtain ⟨dy, l, f', e, ow, h1, h2, h3, h4, h5⟩ := hs.ex
  have hr2 := hr
  have hs' := hs.old
  refine ⟨_, (pss_cons (ps_if (pt_cmpR op_eq (pe_ix ix_list (pe_fld (pv 1) rfl) (pe_fld (pv 0) rfl) (fun _ _ => rfl)) pe_int (nomark _)) (pss_one (ps_ret (pe_ok CL hr2 rfl passE (pa_cons (pv 1) (pa_cons (pe_fld (pv 0) rfl) (pa_cons pe_int pa_nil)))))) pss_nil)
      (pss_one (ps_ret (pe_ok CL hr2 rfl passE (pa_cons (pv 1) (pa_cons (pe_fld (pv 0) rfl) (pa_cons (pe_fld (pv 1) rfl) pa_nil))))))), ?_⟩
  refine ⟨_, rfl, s, c.spot, dy, _, .ref l, rfl, h1, sc.c, sc.n0, rfl, _, rfl, x, c.cell, dx, _, .int r, rfl, hx, cl, n0, rfl, l, _, _, _, rfl, rfl, h2, at_int r.toNat hw.1.2 (by have := hw.1.1; omega), rfl, _, rfl, ?_⟩
  by_cases z : S.len r = 1
  · have ci := FM.cell_in ho hw.1 (q := 0) (by decide) (by omega)
    have ez : F2.worth fs k S (.cell r) = .ok (S.cellAt r 0) := if_pos z
    rw [ez] at o
    rw [decide_eq_true (show V.int (S.lens.getD r.toNat 0) = V.int 1 from congrArg V.int z)]
    exact iteT ⟨_, rfl, _, rfl, x, c.cell, dx, _, .int r, rfl, hx, cl, n0, rfl, s, S, r, 0, rfl, hs', hw.1.1, ci.1, ci.2.1, fun H2 s2 => o H2 s2⟩
  · have pl := hw.2.2 z
    have ci := FM.cell_in ho hw.1 pl.1 pl.2
    have ez : F2.worth fs k S (.cell r) = .ok (S.cellAt r S.place) := if_neg z
    rw [ez] at o
    rw [decide_eq_false (show ¬ V.int (S.lens.getD r.toNat 0) = V.int 1 from fun y => z (by injection y))]
    exact iteF ⟨_, rfl, _, rfl, x, c.cell, dx, _, .int r, rfl, hx, cl, n0, rfl, _, rfl, s, c.spot, dy, _, .int S.place, rfl, h1, sc.c, sc.n3, rfl, s, S, r, S.place, rfl, hs', hw.1.1, ci.1, ci.2.1, fun H2 s2 => o H2 s2⟩
theorem w2_shi {c : F2.Cs} {CN OU : Addr} {fs : List F2.Fn} {k : Nat} {r b o' : Int} (d : MethIn K c.shi "worth" "Shifted.worth" s_Shifted_worth ["self", "spot"]) (cl : Cls K c.shi) (n0 : NoAttr K c.shi "row") (n1 : NoAttr K c.shi "by") (n2 : NoAttr K c.shi "other") (sc : SpotC K c.spot) (LI : Ok P w K mg base (CXe P w base) 1 "lies_in" ["spot", "row", "place"] (spLies c.toCs K)) (CL : Ok P w K mg base (CXe P w base) 2 "cell_at" ["spot", "row", "place"] (spCell c.toCs K)) : F2.Worth P w K mg base c CN OU 3 fs k (.shi r b o') := by
  obtain ⟨f, fd, m, F, bd⟩ := d
  intro x H hx
  obtain ⟨dx, hx0⟩ := id hx
  refine ⟨c.shi, dx, _, fun vs H Q E => ∃ (x s : Addr) (S : F2.SpotD), vs = [.ref x, .ref s] ∧ F2.FormAt c H (.shi r b o') x ∧ F2.SpotAt c K H s S fs ∧ FM.SpotOk S ∧ F2.WF fs k S (.shi r b o') ∧ FM.Out CN OU (F2.worth fs k S (.shi r b o')) H Q E, hx0, ⟨cl, f, fd, _, m, F.okE sc_Shifted_worth (fun vs H Q E ⟨_, _, _, e, _⟩ => by rw [e]; rfl) fun cdv A outer s H vs Q E hr h => ?_, bd⟩, rfl, fun s S Q E H' sH hs ho hw o => ⟨x, s, S, rfl, hx.same sH, hs, ho, hw, o⟩⟩
  obtain ⟨x, s, S, rfl, ⟨dx, hx⟩, hs, ho, hw, o⟩ := h
  obtain ⟨dy, l, f', e, ow, h1, h2, h3, h4, h5⟩ := hs.ex
  have nd := sc_Shifted_worth.nd
  have hr2 := hr
  have hr1 : Room 1 _ := hr.mono (by decide)
  have hs' := hs.old
  refine ⟨_, (pss_cons (ps_set (i := 2) nd rfl (Or.inl rfl) (pe_op op_add (pe_fld (pv 1) rfl) (pe_fld (pv 0) rfl)))
      (pss_cons (ps_if (pt_val (pe_ok LI hr1 rfl passE (pa_cons (pv 1) (pa_cons (pe_fld (pv 0) rfl) (pa_cons (pv 2) pa_nil))))) (pss_one (ps_ret (pe_ok CL hr2 rfl passE (pa_cons (pv 1) (pa_cons (pe_fld (pv 0) rfl) (pa_cons (pv 2) pa_nil)))))) pss_nil)
      (pss_one (ps_ret (pe_fld (pv 0) rfl))))), ?_⟩
  refine ⟨_, rfl, s, c.spot, dy, _, .int S.place, rfl, h1, sc.c, sc.n3, rfl, _, rfl, x, c.shi, dx, _, .int b, rfl, hx, cl, n1, rfl, _, _, rfl, rfl, ?_⟩
  refine ⟨_, rfl, _, rfl, x, c.shi, dx, _, .int r, rfl, hx, cl, n0, rfl, _, rfl, s, S, r, S.place + b, rfl, hs', hw.1, _, rfl, ?_⟩
  by_cases z : 0 ≤ S.place + b ∧ S.place + b < S.len r
  · have ci := FM.cell_in ho hw.1 z.1 z.2
    have ez : F2.worth fs k S (.shi r b o') = .ok (S.cellAt r (S.place + b)) := if_pos z
    rw [ez] at o
    rw [decide_eq_true z]
    exact iteT ⟨_, rfl, _, rfl, x, c.shi, dx, _, .int r, rfl, hx, cl, n0, rfl, _, rfl, s, S, r, S.place + b, rfl, hs', hw.1.1, ci.1, ci.2.1, fun H2 s2 => o H2 s2⟩
  · have ez : F2.worth fs k S (.shi r b o') = .ok o' := if_neg z
    rw [ez] at o
    rw [decide_eq_false z]
    exact iteF ⟨_, rfl, x, c.shi, dx, _, .int o', rfl, hx, cl, n2, rfl, o H (Same.refl _)⟩
theorem w2_loc {c : F2.Cs} {CN OU : Addr} {fs : List F2.Fn} {k : Nat} {a : Int} (d : MethIn K c.loc "worth" "Local.worth" s_Local_worth ["self", "spot"]) (cl : Cls K c.loc) (n0 : NoAttr K c.loc "at") (sc : SpotC K c.spot) : F2.Worth P w K mg base c CN OU 1 fs k (.loc a) := by
  obtain ⟨f, fd, m, F, bd⟩ := d
  intro x H hx
  obtain ⟨dx, hx0⟩ := id hx
  refine ⟨c.loc, dx, _, fun vs H Q E => ∃ (x s : Addr) (S : F2.SpotD), vs = [.ref x, .ref s] ∧ F2.FormAt c H (.loc a) x ∧ F2.SpotAt c K H s S fs ∧ FM.SpotOk S ∧ F2.WF fs k S (.loc a) ∧ FM.Out CN OU (F2.worth fs k S (.loc a)) H Q E, hx0, ⟨cl, f, fd, _, m, F.okE sc_Local_worth (fun vs H Q E ⟨_, _, _, e, _⟩ => by rw [e]; rfl) fun cdv A outer s H vs Q E hr h => ?_, bd⟩, rfl, fun s S Q E H' sH hs ho hw o => ⟨x, s, S, rfl, hx.same sH, hs, ho, hw, o⟩⟩
  obtain ⟨x, s, S, rfl, ⟨dx, hx⟩, hs, ho, hw, o⟩ := h
  obtain ⟨dy, l, f', e, ow, h1, h2, h3, h4, h5⟩ := hs.ex
  refine ⟨_, (pss_one (ps_ret (pe_ix ix_list (pe_fld (pv 1) rfl) (pe_fld (pv 0) rfl) (fun _ _ => rfl)))), ?_⟩
  exact ⟨_, rfl, s, c.spot, dy, _, .ref ow, rfl, h1, sc.c, sc.n4, rfl, _, rfl, x, c.loc, dx, _, .int a, rfl, hx, cl, n0, rfl, ow, _, _, _, rfl, rfl, h5, at_int a.toNat hw.2 (by have := hw.1; omega), o H (Same.refl _)⟩
theorem w2_at {c : F2.Cs} {CN OU : Addr} {fs : List F2.Fn} {k : Nat} {r : Int} {p : F2.Fm} {rm : Nat} {bm : List Value} {B newId initId : String} (d : MethIn K c.at' "worth" "At.worth" s_At_worth ["self", "spot"]) (cl : Cls K c.at') (n0 : NoAttr K c.at' "row") (n1 : NoAttr K c.at' "place") (LI : Ok P w K mg base (CXe P w base) 1 "lies_in" ["spot", "row", "place"] (spLies c.toCs K)) (CL : Ok P w K mg base (CXe P w base) 2 "cell_at" ["spot", "row", "place"] (spCell c.toCs K)) (OO : PyProof.Rows.OwnCls "Outside" OU bm newId mg base) (FB : ExcBaseFacts B newId initId bm) (hk : 2 ≤ rm) (hp : F2.Worth P w K mg base c CN OU rm fs k p) : F2.Worth P w K mg base c CN OU (rm + 1) fs k (.at' r p) := by
  obtain ⟨f, fd, m, F, bd⟩ := d
  intro x H hx
  obtain ⟨dx, y, hx0, _⟩ := id hx
  refine ⟨c.at', dx, _, fun vs H Q E => ∃ (x s : Addr) (S : F2.SpotD), vs = [.ref x, .ref s] ∧ F2.FormAt c H (.at' r p) x ∧ F2.SpotAt c K H s S fs ∧ FM.SpotOk S ∧ F2.WF fs k S (.at' r p) ∧ FM.Out CN OU (F2.worth fs k S (.at' r p)) H Q E, hx0, ⟨cl, f, fd, _, m, F.okE sc_At_worth (fun vs H Q E ⟨_, _, _, e, _⟩ => by rw [e]; rfl) fun cdv A outer s H vs Q E hr h => ?_, bd⟩, rfl, fun s S Q E H' sH hs ho hw o => ⟨x, s, S, rfl, hx.same sH, hs, ho, hw, o⟩⟩
  obtain ⟨x, s, S, rfl, ⟨dx, y, hx, hy⟩, hs, ho, hw, o⟩ := h
  have nd := sc_At_worth.nd
  have hr1 : Room 1 _ := hr.mono (by omega)
  have hr2 : Room 2 _ := hr.mono (by omega)
  refine ⟨_, (pss_cons (ps_set (i := 2) nd rfl (Or.inl rfl) (pe_methX hr passE (pe_fld (pv 0) rfl) (pa_cons (pv 1) pa_nil)))
      (pss_cons (ps_if (pt_not (pt_val (pe_ok LI hr1 rfl passE (pa_cons (pv 1) (pa_cons (pe_fld (pv 0) rfl) (pa_cons (pv 2) pa_nil)))))) (pss_one (ps_raise OO FB rfl rfl throwE (pa_cons pe_str pa_nil))) pss_nil)
      (pss_one (ps_ret (pe_ok CL hr2 rfl passE (pa_cons (pv 1) (pa_cons (pe_fld (pv 0) rfl) (pa_cons (pv 2) pa_nil)))))))), ?_⟩
  obtain ⟨C1, dx1, fs1, sp1, e1, d1, l1, u1⟩ := hp y H hy
  refine ⟨_, rfl, x, c.at', dx, _, .ref y, rfl, hx, cl, n1, rfl, y, C1, dx1, fs1, sp1, rfl, e1, d1, l1, _, rfl, u1 s S _ E _ (Same.refl _) hs ho hw.2 fun H1 s1 => ?_⟩
  have o1 := o.same s1
  cases e : F2.worth fs k S p with
  | nought =>
    have z : F2.worth fs k S (.at' r p) = .nought := by show (match F2.worth fs k S p with | .ok q => _ | e => e) = _; rw [e]
    rw [z] at o1; exact o1 H1 (Same.refl _)
  | outside =>
    have z : F2.worth fs k S (.at' r p) = .outside := by show (match F2.worth fs k S p with | .ok q => _ | e => e) = _; rw [e]
    rw [z] at o1; exact o1 H1 (Same.refl _)
  | ok q =>
    have hx1 := s1 _ _ hx
    have hs1 := hs.same s1
    refine ⟨_, rfl, _, rfl, x, c.at', dx, _, .int r, rfl, hx1, cl, n0, rfl, _, rfl, s, S, r, q, rfl, hs1.old, hw.1, _, rfl, ?_⟩
    by_cases z : 0 ≤ q ∧ q < S.len r
    · rw [decide_eq_true z]
      have ci := FM.cell_in ho hw.1 z.1 z.2
      have z' : F2.worth fs k S (.at' r p) = .ok (S.cellAt r q) := by show (match F2.worth fs k S p with | .ok q => (if 0 ≤ q ∧ q < S.len r then FM.Res.ok (S.cellAt r q) else .outside) | e => e) = _; rw [e]; exact if_pos z
      rw [z'] at o1
      exact iteF ⟨_, rfl, _, rfl, x, c.at', dx, _, .int r, rfl, hx1, cl, n0, rfl, _, rfl, s, S, r, q, rfl, hs1.old, hw.1.1, ci.1, ci.2.1, fun H2 s2 => o1 H2 s2⟩
    · rw [decide_eq_false z]
      have z' : F2.worth fs k S (.at' r p) = .outside := by show (match F2.worth fs k S p with | .ok q => (if 0 ≤ q ∧ q < S.len r then FM.Res.ok (S.cellAt r q) else .outside) | e => e) = _; rw [e]; exact if_neg z
      rw [z'] at o1
      exact iteT ⟨by show 1 ≤ sizeLine; decide, o1 H1 (Same.refl _)⟩
theorem w2_pair {c : F2.Cs} {CN OU : Addr} {fs : List F2.Fn} {k : Nat} {sg : Str} {l r : F2.Fm} {rm : Nat} (d : MethIn K c.pair "worth" "Pair.worth" s_Pair_worth ["self", "spot"]) (cl : Cls K c.pair) (n0 : NoAttr K c.pair "sign") (n1 : NoAttr K c.pair "left") (n2 : NoAttr K c.pair "right") (hB : F2.Bodies fs) (DN : Ok P w K mg base (CXe P w base) 3 "done" ["sign", "left", "right"] (spDone CN)) (hk : 3 ≤ rm) (hl : F2.Worth P w K mg base c CN OU rm fs k l) (hr' : F2.Worth P w K mg base c CN OU rm fs k r) : F2.Worth P w K mg base c CN OU (rm + 1) fs k (.pair sg l r) := by
  obtain ⟨f, fd, m, F, bd⟩ := d
  intro x H hx
  obtain ⟨dx, y, z, hx0, _⟩ := id hx
  refine ⟨c.pair, dx, _, fun vs H Q E => ∃ (x s : Addr) (S : F2.SpotD), vs = [.ref x, .ref s] ∧ F2.FormAt c H (.pair sg l r) x ∧ F2.SpotAt c K H s S fs ∧ FM.SpotOk S ∧ F2.WF fs k S (.pair sg l r) ∧ FM.Out CN OU (F2.worth fs k S (.pair sg l r)) H Q E, hx0, ⟨cl, f, fd, _, m, F.okE sc_Pair_worth (fun vs H Q E ⟨_, _, _, e, _⟩ => by rw [e]; rfl) fun cdv A outer s H vs Q E hr h => ?_, bd⟩, rfl, fun s S Q E H' sH hs ho hw o => ⟨x, s, S, rfl, hx.same sH, hs, ho, hw, o⟩⟩
  obtain ⟨x, s, S, rfl, ⟨dx, y, z, hx, hy, hz⟩, hs, ho, hw, o⟩ := h
  have nd := sc_Pair_worth.nd
  have hr3 : Room 3 _ := hr.mono (by omega)
  refine ⟨_, (pss_cons (ps_set (i := 2) nd rfl (Or.inl rfl) (pe_methX hr passE (pe_fld (pv 0) rfl) (pa_cons (pv 1) pa_nil)))
      (pss_cons (ps_set (i := 3) nd rfl (Or.inl rfl) (pe_methX hr passE (pe_fld (pv 0) rfl) (pa_cons (pv 1) pa_nil)))
      (pss_one (ps_ret (pe_ok DN hr3 rfl passE (pa_cons (pe_fld (pv 0) rfl) (pa_cons (pv 2) (pa_cons (pv 3) pa_nil)))))))), ?_⟩
  obtain ⟨C1, dx1, fs1, sp1, e1, d1, l1, u1⟩ := hl y H hy
  have evp : F2.worth fs k S (.pair sg l r) = (match F2.worth fs k S l with | .ok a => (match F2.worth fs k S r with | .ok b => (match FM.doneR sg a b with | some n => FM.Res.ok n | none => .nought) | e => e) | e => e) := rfl
  refine ⟨_, rfl, x, c.pair, dx, _, .ref y, rfl, hx, cl, n1, rfl, y, C1, dx1, fs1, sp1, rfl, e1, d1, l1, _, rfl, u1 s S _ E _ (Same.refl _) hs ho hw.2.1 fun H1 s1 => ?_⟩
  have o1 := o.same s1
  cases el : F2.worth fs k S l with
  | nought => rw [evp, el] at o1; exact o1 H1 (Same.refl _)
  | outside => rw [evp, el] at o1; exact o1 H1 (Same.refl _)
  | ok a =>
    rw [evp, el] at o1
    have hx1 := s1 _ _ hx
    obtain ⟨C2, dx2, fs2, sp2, e2, d2, l2, u2⟩ := hr' z H1 (hz.same s1)
    refine ⟨_, rfl, x, c.pair, dx, _, .ref z, rfl, hx1, cl, n2, rfl, z, C2, dx2, fs2, sp2, rfl, e2, d2, l2, _, rfl, u2 s S _ E _ (Same.refl _) (hs.same s1) ho hw.2.2 fun H2 s2 => ?_⟩
    have o2 := o1.same s2
    cases er : F2.worth fs k S r with
    | nought => rw [er] at o2; exact o2 H2 (Same.refl _)
    | outside => rw [er] at o2; exact o2 H2 (Same.refl _)
    | ok b =>
      rw [er] at o2
      refine ⟨_, rfl, x, c.pair, dx, _, .str sg, rfl, s2 _ _ hx1, cl, n0, rfl, _, rfl, _, rfl, sg, a, b, rfl, hw.1, F2.worth_kin hB ho hw.2.1 el, F2.worth_kin hB ho hw.2.2 er, fun n e => ?_, fun e => ?_⟩
      · dsimp only at o2; rw [e] at o2; exact o2 H2 (Same.refl _)
      · dsimp only at o2; rw [e] at o2; exact o2 H2 (Same.refl _)
theorem w2_cho {c : F2.Cs} {CN OU : Addr} {fs : List F2.Fn} {k : Nat} {t l r : F2.Fm} {rm : Nat} (d : MethIn K c.cho "worth" "Choice.worth" s_Choice_worth ["self", "spot"]) (cl : Cls K c.cho) (n0 : NoAttr K c.cho "test") (n1 : NoAttr K c.cho "left") (n2 : NoAttr K c.cho "right") (ht : F2.Worth P w K mg base c CN OU rm fs k t) (hl : F2.Worth P w K mg base c CN OU rm fs k l) (hr' : F2.Worth P w K mg base c CN OU rm fs k r) : F2.Worth P w K mg base c CN OU (rm + 1) fs k (.cho t l r) := by
  obtain ⟨f, fd, m, F, bd⟩ := d
  intro x H hx
  obtain ⟨dx, u, y, z, hx0, _⟩ := id hx
  refine ⟨c.cho, dx, _, fun vs H Q E => ∃ (x s : Addr) (S : F2.SpotD), vs = [.ref x, .ref s] ∧ F2.FormAt c H (.cho t l r) x ∧ F2.SpotAt c K H s S fs ∧ FM.SpotOk S ∧ F2.WF fs k S (.cho t l r) ∧ FM.Out CN OU (F2.worth fs k S (.cho t l r)) H Q E, hx0, ⟨cl, f, fd, _, m, F.okE sc_Choice_worth (fun vs H Q E ⟨_, _, _, e, _⟩ => by rw [e]; rfl) fun cdv A outer s H vs Q E hr h => ?_, bd⟩, rfl, fun s S Q E H' sH hs ho hw o => ⟨x, s, S, rfl, hx.same sH, hs, ho, hw, o⟩⟩
  obtain ⟨x, s, S, rfl, ⟨dx, u, y, z, hx, hu, hy, hz⟩, hs, ho, hw, o⟩ := h
  refine ⟨_, (pss_cons (ps_if (pt_cmpR op_ne (pe_methX hr passE (pe_fld (pv 0) rfl) (pa_cons (pv 1) pa_nil)) pe_int (nomark _)) (pss_one (ps_ret (pe_methX hr passE (pe_fld (pv 0) rfl) (pa_cons (pv 1) pa_nil)))) pss_nil)
      (pss_one (ps_ret (pe_methX hr passE (pe_fld (pv 0) rfl) (pa_cons (pv 1) pa_nil))))), ?_⟩
  obtain ⟨C0, dx0, fs0, sp0, e0, d0, l0, u0⟩ := ht u H hu
  have evc : F2.worth fs k S (.cho t l r) = (match F2.worth fs k S t with | .ok a => (if a ≠ 0 then F2.worth fs k S l else F2.worth fs k S r) | e => e) := rfl
  refine ⟨_, rfl, x, c.cho, dx, _, .ref u, rfl, hx, cl, n0, rfl, u, C0, dx0, fs0, sp0, rfl, e0, d0, l0, _, rfl, u0 s S _ E _ (Same.refl _) hs ho hw.1 fun H1 s1 => ?_⟩
  have o1 := o.same s1
  cases et : F2.worth fs k S t with
  | nought => rw [evc, et] at o1; exact o1 H1 (Same.refl _)
  | outside => rw [evc, et] at o1; exact o1 H1 (Same.refl _)
  | ok a =>
    rw [evc, et] at o1
    have hx1 := s1 _ _ hx
    refine ⟨rfl, _, rfl, ?_⟩
    by_cases za : a = 0
    · rw [decide_eq_true (by rw [za])]
      have o2 : FM.Out CN OU (F2.worth fs k S r) H1 Q E := by
        have := o1; dsimp only at this; rw [if_neg (by omega)] at this; exact this
      obtain ⟨C2, dx2, fs2, sp2, e2, d2, l2, u2⟩ := hr' z H1 (hz.same s1)
      exact iteF ⟨_, rfl, x, c.cho, dx, _, .ref z, rfl, hx1, cl, n2, rfl, z, C2, dx2, fs2, sp2, rfl, e2, d2, l2, _, rfl, u2 s S _ E _ (Same.refl _) (hs.same s1) ho hw.2.2 o2⟩
    · rw [decide_eq_false (by intro q; cases q; exact za rfl)]
      have o2 : FM.Out CN OU (F2.worth fs k S l) H1 Q E := by
        have := o1; dsimp only at this; rw [if_pos za] at this; exact this
      obtain ⟨C2, dx2, fs2, sp2, e2, d2, l2, u2⟩ := hl y H1 (hy.same s1)
      exact iteT ⟨_, rfl, x, c.cho, dx, _, .ref y, rfl, hx1, cl, n1, rfl, y, C2, dx2, fs2, sp2, rfl, e2, d2, l2, _, rfl, u2 s S _ E _ (Same.refl _) (hs.same s1) ho hw.2.1 o2⟩
theorem w2_call {c : F2.Cs} {CN OU : Addr} {fs : List F2.Fn} {k : Nat} {a : Int} {gs : F2.Fms} {rm : Nat} (d : MethIn K c.call "worth" "Call.worth" s_Call_worth ["self", "spot"]) (cl : Cls K c.call) (n0 : NoAttr K c.call "at") (n1 : NoAttr K c.call "handed") (sc : SpotC K c.spot) (hB : F2.Bodies fs) (IS : OkI P w K mg base (CXe P w base) 1 c.spot ["self", "lengths", "functions", "cells", "place", "own"] (spI_Spot c.spot)) (hCs : mg "Spot" = some (.ref c.spot)) (hk : 2 ≤ rm) (h6 : ∀ a, F2.handsOf fs a ≤ 600) (hh : gs.All (F2.Worth P w K mg base c CN OU rm fs k)) (hb : ∀ a, 0 ≤ a → a.toNat < k → a.toNat < fs.length → F2.Worth P w K mg base c CN OU rm fs (k - 1) (F2.bodyOf fs a)) : F2.Worth P w K mg base c CN OU (rm + 1) fs k (.call a gs) := by
  obtain ⟨f, fd, m, F, bd⟩ := d
  intro x H hx
  obtain ⟨dx, la, ys, hx0, _, _⟩ := id hx
  refine ⟨c.call, dx, _, fun vs H Q E => ∃ (x s : Addr) (S : F2.SpotD), vs = [.ref x, .ref s] ∧ F2.FormAt c H (.call a gs) x ∧ F2.SpotAt c K H s S fs ∧ FM.SpotOk S ∧ F2.WF fs k S (.call a gs) ∧ FM.Out CN OU (F2.worth fs k S (.call a gs)) H Q E, hx0, ⟨cl, f, fd, _, m, F.okE sc_Call_worth (fun vs H Q E ⟨_, _, _, e, _⟩ => by rw [e]; rfl) fun cdv A outer s H vs Q E hr h => ?_, bd⟩, rfl, fun s S Q E H' sH hs ho hw o => ⟨x, s, S, rfl, hx.same sH, hs, ho, hw, o⟩⟩
  obtain ⟨x, s, S, rfl, ⟨dx, la, ys, hx, hla, hys⟩, hs, ho, hw, o⟩ := h
  obtain ⟨dy, l, f', e, ow, h1, h2, h3, h4, h5⟩ := hs.ex
  have nd := sc_Call_worth.nd
  have hr2 : Room 2 _ := hr.mono (by omega)
  obtain ⟨w0, w1, w2, w3, w4⟩ := hw
  refine ⟨_, (pss_cons (ps_compX (i := 2) (te := tMethX (DispX P w K mg base (CXe P w base) rm "worth") "worth" E (tVar 0) (tCons (tVar 1) tNil)) (E := E) rfl rfl rfl airE ["form", "spot"] [none, some 1] rfl rfl rfl (pi_list (pe_fld (pv 0) rfl)) (fun s3 H3 fp => ⟨pg_name (i := 0) (show ((["form", "spot"] : List Str)).Nodup by decide +kernel) rfl (Or.inl rfl), (pe_methX (E := E) (CX := CXe P w base) hr (by intro p1 p2 p3 p4 p5 p6 I h; exact ⟨p1, p2, p3, p4, I.unwish, h⟩) (pv 0) (pa_cons (pv 1) pa_nil))⟩) nd rfl (Or.inl rfl))
      (pss_cons (ps_set (i := 4) nd rfl (Or.inl rfl) (pe_ix ix_tup (pe_ix ix_list (pe_fld (pv 1) rfl) (pe_fld (pv 0) rfl) (fun _ _ => rfl)) pe_int (fun _ _ => rfl)))
      (pss_one (ps_ret (pe_methX hr passE (pv 4) (pa_cons (pe_okI IS hCs hr2 (by rfl) passE (pa_cons (pe_fld (pv 1) rfl) (pa_cons (pe_fld (pv 1) rfl) (pa_cons (pe_fld (pv 1) rfl) (pa_cons (pe_fld (pv 1) rfl) (pa_cons (pv 2) pa_nil)))))) pa_nil)))))), ?_⟩
  rw [F2.worth_call] at o
  have hyl := hys.len
  refine ⟨_, rfl, x, c.call, dx, _, .ref la, rfl, hx, cl, n1, rfl, la, rfl, ⟨_, SqL.of hla⟩, _, rfl, fun D nD => ?_⟩
  refine comp_list (K := K) (a := la) (D := D) (xs := ys.map V.ref) (fun i σ H2 => ∃ (u : Option V) (ls : List Int), σ = [u, some (.ref s)] ∧ Hd H [(D, .lst (ls.map V.int))] H2 ∧ ls.length = i ∧ F2.evs (F2.callK fs S k) S gs = (F2.evs (F2.callK fs S k) S (gs.drop i)).pre ls) ?_ (fun i σ H2 _ ⟨_, _, _, h, _⟩ => SqL.of (h.sm _ _ hla)) ?_ ?_
  · exact ⟨none, [], rfl, Hd.base.new nD, rfl, F2.pre_nil.symm⟩
  · rintro i v σ H2 hi ⟨u, ls, rfl, h, hll, he⟩
    obtain ⟨y, hy, rfl⟩ : ∃ y, ys[i]? = some y ∧ v = .ref y := by
      rw [List.getElem?_map] at hi
      cases z : ys[i]? with
      | none => rw [z] at hi; cases hi
      | some y => rw [z] at hi; exact ⟨y, rfl, (Option.some.inj hi).symm⟩
    obtain ⟨f1, fd1, fa, fw, fwf⟩ := F2.FormsAt.get hys hh w4 hy
    obtain ⟨C1, dx1, fs1, sp1, e1, d1, l1, u1⟩ := fw y H2 (fa.same h.sm)
    have hi' : i < ys.length := (List.getElem?_eq_some_iff.mp hy).1
    have yl : ys.length ≤ 600 := by rw [hyl, w3]; exact h6 a
    have SL : (600 : Nat) < sizeLine := by decide
    refine ⟨_, rfl, y, C1, dx1, fs1, sp1, rfl, e1, d1, l1, _, rfl, u1 s S _ E _ (Same.refl _) (hs.same h.sm) ho fwf fun H3 s3 => ?_⟩
    have h := h.same s3
    rw [fd1] at he
    cases ef : F2.worth fs k S f1 with
    | nought =>
      rw [he, F2.pre_bad ef (by intro n z; cases z)] at o
      exact o H3 h.sm
    | outside =>
      rw [he, F2.pre_bad ef (by intro n z; cases z)] at o
      exact o H3 h.sm
    | ok n =>
      refine ⟨_, h.get 0 rfl, by rw [List.length_map]; omega, some (.ref y), ls ++ [n], rfl, ?_, by rw [List.length_append, hll]; rfl, by rw [he]; exact F2.pre_step ef⟩
      rw [List.map_append]
      exact h.put 0 rfl
  rintro σ H2 ⟨u, ls, rfl, h, hll, he⟩
  rw [List.length_map] at hll he
  rw [hyl, F2.drop_all] at he
  have he : F2.evs (F2.callK fs S k) S gs = .ok ls := by rw [he]; show F2.RL.ok (ls ++ []) = _; rw [List.append_nil]
  obtain ⟨ql, qk⟩ := F2.evs_kin (fs := fs) (k := k) ho (fun a l n x0 x1 x2 x3 x4 x5 => F2.call_kin hB ho k a l n x0 x1 x2 x3 x4 x5) w4 he
  rw [he] at o
  obtain ⟨kk, rfl⟩ : ∃ j, k = j + 1 := ⟨k - 1, by omega⟩
  obtain ⟨ts, t1, t2, t3⟩ := h3.ex
  obtain ⟨bb, b1, b2⟩ := t3 a.toNat w2
  have at1 : atI (ts.map V.ref) a = some (.ref (ts.getD a.toNat 0)) := by
    have ea : a = (a.toNat : Int) := by omega
    rw [ea, Int.toNat_natCast]
    refine atI_nat ?_
    rw [List.getElem?_map, List.getElem?_eq_getElem (by omega)]
    simp [List.getD, show a.toNat < ts.length by omega]
  refine ⟨_, rfl, s, c.spot, dy, _, .ref f', rfl, h.sm _ _ h1, sc.c, sc.n1, rfl, _, rfl, x, c.call, dx, _, .int a, rfl, h.sm _ _ hx, cl, n0, rfl, f', _, _, _, rfl, rfl, h.sql t1, at1, ts.getD a.toNat 0, _, 1, .ref bb, rfl, rfl, h.sqt b1, rfl, ?_⟩
  have bW : F2.Worth P w K mg base c CN OU rm fs kk (F2.bodyOf fs a) := hb a w0 (by omega) w2
  obtain ⟨C2, dx2, fs2, sp2, e2, d2, l2, u2⟩ := bW bb H2 (b2.same h.sm)
  refine ⟨_, rfl, bb, C2, dx2, fs2, sp2, rfl, e2, d2, l2, _, rfl, s, c.spot, dy, _, .ref l, rfl, h.sm _ _ h1, sc.c, sc.n0, rfl, _, rfl, s, c.spot, dy, _, .ref f', rfl, h.sm _ _ h1, sc.c, sc.n1, rfl, _, rfl, s, c.spot, dy, _, .ref e, rfl, h.sm _ _ h1, sc.c, sc.n2, rfl, _, rfl, s, c.spot, dy, _, .int S.place, rfl, h.sm _ _ h1, sc.c, sc.n3, rfl, _, rfl, fun xs dxs nxs ndxs ne => ⟨xs, dxs, _, _, _, _, _, rfl, upd_same, fun H4 k4 e4 => ⟨rfl, ?_⟩⟩⟩
  have s4 := made_same nxs ndxs k4
  have h := h.same s4
  have ew : F2.worth fs kk { S with own := ls } (F2.bodyOf fs a) = F2.callK fs S (kk + 1) a ls := by
    show F2.ev (F2.callK fs { S with own := ls } kk) _ _ = F2.ev (F2.callK fs S kk) _ _
    rw [F2.callK_own]
  refine u2 xs { S with own := ls } Q E H4 s4 ⟨dxs, l, f', e, D, e4, h.sql h2, h3.same h.sm, h.sql h4, h.lst 0 rfl⟩ (F2.SpotOk.hand ho qk) (F2.WF.mono (by omega) (hB a S ls w0 w2 (by rw [ql]; exact w3))) fun H5 s5 => ?_
  rw [ew]
  exact o H5 (h.sm.trans s5)

end
end K16

/-! ### steps of all kinds but Till, and what an element of one comes to -/
namespace ST
open PySem L2 FM
inductive Kd
  | let' | put (p : F2.Fm) (m : Int) | fold (f : Str) (m : Int) | run (f : Str)
structure StepD where
  target : Int
  value : F2.Fm
  test : Option F2.Fm
  kind : Kd
/-- the nine folds -/
def joinR (f : Str) (a b : Int) : Int :=
  if f = "sum" then kept (a + b) else if f = "product" then kept (a * b) else if f = "least" then (if b < a then b else a) else if f = "most" then (if b > a then b else a)
  else if f = "both" then Builtin.bitAnd a b else if f = "either" then Builtin.bitOr a b else if f = "odd" then Builtin.bitXor a b
  else if f = "chain" then kept (a * 31 + b) else (if a + b > 1000000000 then 1000000000 else if a + b < -1000000000 then -1000000000 else a + b)
def folds : List Str := ["sum", "product", "least", "most", "both", "either", "odd", "chain", "capped"]
inductive RB | b (v : Bool) | no (e : Res)
inductive El | skip | lay (j n : Int) | no (e : Res)
def passOf (fs : List F2.Fn) (k : Nat) (S : SpotD) (L : StepD) : RB := match L.test with
  | none => .b false
  | some F => match F2.worth fs k S F with
    | .ok a => .b (decide (a = 0))
    | e => .no e
/-- the number to lay -/
def numOf (S : SpotD) (L : StepD) (rv : Option Int) (n : Int) : Int := match L.kind with
  | .fold f _ => joinR f (S.cellAt L.target 0) n
  | .run f => (match rv with
    | some r => joinR f r n
    | none => n)
  | _ => n
/-- the place to lay it at -/
def placeOf (fs : List F2.Fn) (k : Nat) (S : SpotD) (L : StepD) : Res := match L.kind with
  | .fold _ _ => .ok 0
  | .put p _ => (match F2.worth fs k S p with
    | .ok q => if 0 ≤ q ∧ q < S.len L.target then .ok q else .outside
    | e => e)
  | _ => .ok S.place
def elOf (fs : List F2.Fn) (k : Nat) (S : SpotD) (L : StepD) (rv : Option Int) : El := match passOf fs k S L with
  | .b true => .skip
  | .b false => (match F2.worth fs k S L.value with
    | .ok n => (match placeOf fs k S L with
      | .ok j => .lay j (numOf S L rv n)
      | e => .no e)
    | e => .no e)
  | .no e => .no e
def manyOf (lens : List Int) (L : StepD) : Int := match L.kind with
  | .put _ m => m
  | .fold _ m => m
  | _ => lens.getD L.target.toNat 0
def startOf (lens : List Int) (t : Int) : Int := (lens.take t.toNat).sum
def runS (fs : List F2.Fn) (k : Nat) (lens : List Int) (L : StepD) : Nat → Nat → Option Int → List Int → List Int × Option (Nat × Res)
  | 0, _, _, cs => (cs, none)
  | n + 1, p, rv, cs => match elOf fs k ⟨lens, cs, p, []⟩ L rv with
    | .skip => runS fs k lens L n (p + 1) rv cs
    | .lay j v => runS fs k lens L n (p + 1) (some v) (cs.set (startOf lens L.target + j).toNat v)
    | .no e => (cs, some (p, e))
theorem el_no_ok {fs : List F2.Fn} {k : Nat} {S : SpotD} {L : StepD} {rv : Option Int} {n : Int} : elOf fs k S L rv ≠ .no (.ok n) := by
  intro e
  unfold elOf at e
  split at e
  · cases e
  · split at e
    · split at e
      · cases e
      · rename_i z; injection e with e; exact z n e
    · rename_i z; injection e with e; exact z n e
  · rename_i e' hp
    injection e with e
    subst e
    unfold passOf at hp
    split at hp
    · cases hp
    · split at hp
      · cases hp
      · rename_i z; injection hp with hp; exact z n hp
end ST

namespace L2
open PySem PySem.Spec PyProof.Rows
/-- a heap without some of its objects -/
def but (H : Hp) (ls : List Addr) : Hp := fun b => if b ∈ ls then none else H b
theorem but_none {H : Hp} {ls : List Addr} {b : Addr} (h : b ∈ ls) : but H ls b = none := by unfold but; rw [if_pos h]
theorem but_of {H : Hp} {ls : List Addr} {b : Addr} {o : HO} (h : H b = some o) (n : b ∉ ls) : but H ls b = some o := by unfold but; rw [if_neg n]; exact h
theorem but_sub {H : Hp} {ls : List Addr} : Same (but H ls) H := fun b o z => by
  unfold but at z
  split at z
  · cases z
  · exact z
namespace Hd
variable {B B' : Hp} {L : List (Addr × HO)} {H H' : Hp} {a : Addr} {o : HO}
/-- all but the one object as a base -/
theorem but1 (h : H a = some o) : Hd (but H [a]) [(a, o)] H := ⟨by simp, fun p m => by rw [List.mem_singleton.mp m]; exact but_none (by simp), fun p m => by rw [List.mem_singleton.mp m]; exact h, but_sub⟩
theorem into (h : Hd B [(a, o)] H) : Same B (but H [a]) := fun b u z => but_of (h.sm _ _ z) (by
  intro q
  have q := List.mem_singleton.mp q
  subst q
  rw [h.nw _ (List.mem_singleton.mpr rfl)] at z
  cases z)
theorem weak (h : Hd B' L H) (s : Same B B') : Hd B L H := ⟨h.nd, fun p m => s.free (h.nw p m), h.st, s.trans h.sm⟩
end Hd
end L2

/-! ### steps in the heap, and programs of steps -/
namespace ST
open PySem L2 FM
structure Scs where
  let_ : Addr
  put : Addr
  fold : Addr
  run : Addr
  till : Addr
  step : Addr
def Scs.of (q : Scs) : Kd → Addr
  | .let' => q.let_
  | .put _ _ => q.put
  | .fold _ _ => q.fold
  | .run _ => q.run
def isF : Kd → Bool
  | .fold _ _ => true
  | _ => false
def isR : Kd → Bool
  | .run _ => true
  | _ => false
def isP : Kd → Bool
  | .put _ _ => true
  | _ => false
def fieldsOf (L : StepD) (v p : Addr) (t : V) : List (Str × V) := match L.kind with
  | .let' => [("target", .int L.target), ("value", .ref v), ("test", t)]
  | .put _ m => [("target", .int L.target), ("value", .ref v), ("place", .ref p), ("many", .int m), ("test", t)]
  | .fold f m => [("target", .int L.target), ("fold", .str f), ("value", .ref v), ("many", .int m), ("test", t)]
  | .run f => [("target", .int L.target), ("fold", .str f), ("value", .ref v), ("test", t)]
theorem fld_target {L : StepD} {v p : Addr} {t : V} : (fieldsOf L v p t).lookup ("target" : Str) = some (.int L.target) := by
  unfold fieldsOf; cases L.kind <;> rfl
theorem fld_value {L : StepD} {v p : Addr} {t : V} : (fieldsOf L v p t).lookup ("value" : Str) = some (.ref v) := by
  unfold fieldsOf; cases L.kind <;> rfl
theorem fld_test {L : StepD} {v p : Addr} {t : V} : (fieldsOf L v p t).lookup ("test" : Str) = some t := by
  unfold fieldsOf; cases L.kind <;> rfl
theorem fld_many_of {L : StepD} {v p : Addr} {t : V} : (fieldsOf L v p t).lookup ("many_of" : Str) = none := by
  unfold fieldsOf; cases L.kind <;> rfl
structure StepAt (c : F2.Cs) (q : Scs) (H : Hp) (L : StepD) (x : Addr) : Prop where
  ex : ∃ dx v p t, H x = some (.ins (q.of L.kind) dx (fieldsOf L v p t)) ∧ F2.FormAt c H L.value v ∧ (match L.test with
    | none => t = .non
    | some F => ∃ u, t = .ref u ∧ F2.FormAt c H F u) ∧ ∀ F m, L.kind = .put F m → F2.FormAt c H F p
theorem StepAt.same {c : F2.Cs} {q : Scs} {H H' : Hp} {L : StepD} {x : Addr} (h : StepAt c q H L x) (s : Same H H') : StepAt c q H' L x := by
  obtain ⟨dx, v, p, t, a, b, d, e⟩ := h.ex
  refine ⟨dx, v, p, t, s _ _ a, b.same s, ?_, fun F m z => (e F m z).same s⟩
  cases y : L.test with
  | none => rw [y] at d; exact d
  | some F => rw [y] at d; obtain ⟨u, d1, d2⟩ := d; exact ⟨u, d1, d2.same s⟩
/-- the promises of a step's forms -/
structure StepW (P : Program) (w : World) (K : PySem.W.Frag) (mg : Str → Option Value) (base : Heap) (c : F2.Cs) (CN OU : Addr) (rm : Nat) (fs : List F2.Fn) (k : Nat) (L : StepD) : Prop where
  v : F2.Worth P w K mg base c CN OU rm fs k L.value
  t : ∀ F, L.test = some F → F2.Worth P w K mg base c CN OU rm fs k F
  p : ∀ F m, L.kind = .put F m → F2.Worth P w K mg base c CN OU rm fs k F
structure StepF (fs : List F2.Fn) (k : Nat) (S : SpotD) (L : StepD) : Prop where
  v : F2.WF fs k S L.value
  t : ∀ F, L.test = some F → F2.WF fs k S F
  p : ∀ F m, L.kind = .put F m → F2.WF fs k S F
def OutB (CN OU : Addr) (r : RB) (H : Hp) (Q : VK) (E : XK) : Prop := ∀ H', Same H H' → match r with
  | .b v => Q (.bl v) H'
  | .no .nought => E (.ref CN) none H'
  | .no .outside => E (.ref OU) none H'
  | .no (.ok _) => True
def rvV : Option Int → V
  | none => .non
  | some r => .int r
/-- a step that may be played at a spot -/
structure ElOk (fs : List F2.Fn) (k : Nat) (S : SpotD) (L : StepD) (rv : Option Int) : Prop where
  has : S.has L.target
  pl : (L.kind = .let' ∨ ∃ f, L.kind = .run f) → 0 ≤ S.place ∧ S.place < S.len L.target
  fo : ∀ f m, L.kind = .fold f m → f ∈ folds ∧ 0 < S.len L.target
  ru : ∀ f, L.kind = .run f → f ∈ folds
  rk : ∀ r, rv = some r → Kin r
  wf : StepF fs k S L
theorem joinR_kin {f : Str} {a b : Int} (ha : Kin a) (hb : Kin b) : Kin (joinR f a b) := by
  have kk : ∀ n, Kin (kept n) := fun n => by unfold kept; constructor <;> omega
  unfold joinR
  split
  · exact kk _
  split
  · exact kk _
  split
  · split <;> assumption
  split
  · split <;> assumption
  split
  · exact My.free_both.cl a b ha hb
  split
  · exact My.free_either.cl a b ha hb
  split
  · exact My.free_odd.cl a b ha hb
  split
  · exact kk _
  split
  · constructor <;> decide
  split
  · constructor <;> decide
  · constructor <;> omega
theorem num_kin {fs : List F2.Fn} {k : Nat} {S : SpotD} {L : StepD} {rv : Option Int} {n : Int} (o : FM.SpotOk S) (e : ElOk fs k S L rv) (hn : Kin n) : Kin (numOf S L rv n) := by
  unfold numOf
  split
  · rename_i f m hk
    have q := e.fo _ _ hk
    exact joinR_kin (FM.cell_in o e.has (Int.le_refl 0) q.2).2.2 hn
  · cases rv with
    | none => exact hn
    | some r => exact joinR_kin (e.rk r rfl) hn
  · exact hn
theorem lay_in {fs : List F2.Fn} {k : Nat} {S : SpotD} {L : StepD} {rv : Option Int} {j : Int} (o : FM.SpotOk S) (e : ElOk fs k S L rv) (h : placeOf fs k S L = .ok j) : 0 ≤ S.start L.target + j ∧ S.start L.target + j < S.cells.length := by
  have fin : 0 ≤ j → j < S.len L.target → 0 ≤ S.start L.target + j ∧ S.start L.target + j < S.cells.length := fun a b => by
    have z := FM.cell_in o e.has a b
    exact ⟨z.1, z.2.1⟩
  unfold placeOf at h
  cases hk : L.kind with
  | let' =>
    rw [hk] at h
    injection h with h; subst h
    exact fin (e.pl (.inl hk)).1 (e.pl (.inl hk)).2
  | run f =>
    rw [hk] at h
    injection h with h; subst h
    exact fin (e.pl (.inr ⟨f, hk⟩)).1 (e.pl (.inr ⟨f, hk⟩)).2
  | fold f m =>
    rw [hk] at h
    injection h with h; subst h
    exact fin (Int.le_refl 0) (e.fo _ _ hk).2
  | put p m =>
    rw [hk] at h
    dsimp only at h
    cases y : F2.worth fs k S p with
    | nought => rw [y] at h; cases h
    | outside => rw [y] at h; cases h
    | ok q =>
      rw [y] at h
      dsimp only at h
      split at h
      · rename_i z; injection h with h; subst h; exact fin z.1 z.2
      · cases h
theorem lay_kin {fs : List F2.Fn} {k : Nat} {S : SpotD} {L : StepD} {rv : Option Int} {j n : Int} (hb : F2.Bodies fs) (o : FM.SpotOk S) (e : ElOk fs k S L rv) (h : elOf fs k S L rv = .lay j n) : Kin n := by
  unfold elOf at h
  split at h
  · cases h
  · split at h
    · rename_i m z
      split at h
      · injection h with h1 h2; subst h2; exact num_kin o e (F2.worth_kin hb o e.wf.v z)
      · cases h
    · cases h
  · cases h
def kindS : Res → Str
  | .nought => "nought"
  | .outside => "outside"
  | .ok _ => ""
/-- what is asked of a step in a program -/
structure StepOk (fs : List F2.Fn) (k : Nat) (lens : List Int) (L : StepD) : Prop where
  t0 : 0 ≤ L.target
  t1 : L.target.toNat < lens.length
  nn : ∀ v ∈ lens, 0 ≤ v
  le : ∀ v ∈ lens, v ≤ 400
  m0 : 0 ≤ manyOf lens L
  m1 : manyOf lens L ≤ 400
  fo : ∀ f m, L.kind = .fold f m → f ∈ folds ∧ 0 < lens.getD L.target.toNat 0
  ru : ∀ f, L.kind = .run f → f ∈ folds
  hb : F2.Bodies fs
  wf : ∀ (cs : List Int) (p : Nat), (p : Int) < manyOf lens L → (cs.length : Int) = lens.sum → (∀ v ∈ cs, Kin v) → StepF fs k ⟨lens, cs, p, []⟩ L
structure CellsOk (lens cs : List Int) : Prop where
  len : (cs.length : Int) = lens.sum
  kin : ∀ v ∈ cs, Kin v
theorem CellsOk.set {lens cs : List Int} {j : Nat} {v : Int} (h : CellsOk lens cs) (hv : Kin v) : CellsOk lens (cs.set j v) := ⟨by rw [List.length_set]; exact h.len, fun x hx => by
  rcases List.mem_or_eq_of_mem_set hx with y | y
  · exact h.kin x y
  · rw [y]; exact hv⟩
theorem spot_ok {fs : List F2.Fn} {k : Nat} {lens cs : List Int} {L : StepD} {p : Nat} {rv : Option Int} (h : StepOk fs k lens L) (hc : CellsOk lens cs) (hp : (p : Int) < manyOf lens L) (hr : ∀ r, rv = some r → Kin r) : FM.SpotOk ⟨lens, cs, p, []⟩ ∧ ElOk fs k ⟨lens, cs, p, []⟩ L rv := by
  have m1 := h.m1
  refine ⟨⟨h.nn, hc.len, hc.kin, (fun v hv => nomatch hv), by show Kin (p : Int); omega⟩, ⟨h.t0, h.t1⟩, fun z => ?_, h.fo, h.ru, hr, h.wf cs p hp hc.len hc.kin⟩
  have e : manyOf lens L = lens.getD L.target.toNat 0 := by
    unfold manyOf
    rcases z with z | ⟨f, z⟩ <;> rw [z]
  exact ⟨by show (0 : Int) ≤ p; omega, by show (p : Int) < lens.getD L.target.toNat 0; omega⟩
/-- the cells stay as many, and kept -/
theorem runS_cells {fs : List F2.Fn} {k : Nat} {lens : List Int} {L : StepD} (h : StepOk fs k lens L) : ∀ (n p : Nat) (rv : Option Int) (cs : List Int), (n : Int) + p ≤ manyOf lens L → CellsOk lens cs → (∀ r, rv = some r → Kin r) → CellsOk lens (runS fs k lens L n p rv cs).1
  | 0, _, _, _, _, hc, _ => hc
  | n + 1, p, rv, cs, hn, hc, hr => by
    obtain ⟨so, eo⟩ := spot_ok (rv := rv) h hc (show (p : Int) < manyOf lens L by omega) hr
    show CellsOk lens (match elOf fs k ⟨lens, cs, p, []⟩ L rv with
      | .skip => runS fs k lens L n (p + 1) rv cs
      | .lay j v => runS fs k lens L n (p + 1) (some v) (cs.set (startOf lens L.target + j).toNat v)
      | .no e => (cs, some (p, e))).1
    cases z : elOf fs k ⟨lens, cs, p, []⟩ L rv with
    | skip => exact runS_cells h n (p + 1) rv cs (by omega) hc hr
    | lay j v =>
      have kv := lay_kin h.hb so eo z
      exact runS_cells h n (p + 1) (some v) _ (by omega) (hc.set kv) fun r e => by injection e with e; subst e; exact kv
    | no e => exact hc
end ST

namespace K16
open PySem L2 FM ST
section
variable {P : Program} {w : World} {K : PySem.W.Frag} {mg : Str → Option Value} {base : Heap}
/-- a class of steps: its own names, its kind -/
structure SC1 (K : PySem.W.Frag) (q : Scs) (kd : Kd) : Prop where
  cl : Cls K (q.of kd)
  n0 : NoAttr K (q.of kd) "target"
  n1 : NoAttr K (q.of kd) "value"
  n2 : NoAttr K (q.of kd) "test"
  k1 : PySem.W.findIn K (.ref (q.of kd)) "__class__" = some (some (.builtin "object.__class__"))
  k2 : PySem.W.specialIn K (.builtin "object.__class__") "__get__" = some (some (.builtin "getset_descriptor.__get__"))
  k3 : PySem.W.takesIn K (.builtin "object.__class__") = some true
  k4 : PySem.W.mroIn K (q.of kd) (.type "object") = some true
  kF : PySem.W.kitOne K (.ref (q.of kd)) (.ref q.fold) = some (isF kd)
  kR : PySem.W.kitOne K (.ref (q.of kd)) (.ref q.run) = some (isR kd)
  kP : PySem.W.kitOne K (.ref (q.of kd)) (.ref q.put) = some (isP kd)
  kT : PySem.W.kitOne K (.ref (q.of kd)) (.ref q.till) = some false
  kS : PySem.W.kitOne K (.ref (q.of kd)) (.ref q.step) = some true
  nP : isP kd = true → NoAttr K q.put "place"
  nF : isF kd = true → NoAttr K q.fold "fold"
  nR : isR kd = true → NoAttr K q.run "fold"
/-- the classes of steps, for the kinds that M tells -/
structure StepsK (K : PySem.W.Frag) (mg : Str → Option Value) (q : Scs) (M : Kd → Prop) : Prop where
  hFo : mg "Fold" = some (.ref q.fold)
  hRu : mg "Running" = some (.ref q.run)
  hPu : mg "Put" = some (.ref q.put)
  hTi : mg "Till" = some (.ref q.till)
  c : ∀ kd, M kd → SC1 K q kd
theorem step_ty {q : Scs} {kd : Kd} {H : Hp} {x dx : Addr} {fl : List (Str × V)} (s : SC1 K q kd) (h : H x = some (.ins (q.of kd) dx fl)) : TyX K H (.ref x) (.ref (q.of kd)) := .inl (.ins h s.cl s.k1 s.k2 s.k3 s.k4)
def spPass (P : Program) (w : World) (K : PySem.W.Frag) (mg : Str → Option Value) (base : Heap) (c : F2.Cs) (CN OU : Addr) (q : Scs) (M : Kd → Prop) (rm : Nat) : Sp := fun vs H Q E => ∃ (s x : Addr) (S : SpotD) (fs : List F2.Fn) (k : Nat) (L : StepD), vs = [.ref s, .ref x] ∧ M L.kind ∧ F2.SpotAt c K H s S fs ∧ FM.SpotOk S ∧ StepAt c q H L x ∧ StepW P w K mg base c CN OU rm fs k L ∧ StepF fs k S L ∧ OutB CN OU (passOf fs k S L) H Q E
theorem ok_pass {c : F2.Cs} {CN OU : Addr} {q : Scs} {M : Kd → Prop} {rm : Nat} (d : DefIn K mg "is_passed_over" s_is_passed_over ["spot", "step"]) (G : StepsK K mg q M) : Ok P w K mg base (CXe P w base) (rm + 1) "is_passed_over" ["spot", "step"] (spPass P w K mg base c CN OU q M rm) := by
  obtain ⟨g, fd, m, F, bd⟩ := d
  refine ⟨g, fd, m, F.kp, bd, F.okE sc_is_passed_over (fun vs H Q E ⟨_, _, _, _, _, _, e, _⟩ => by rw [e]; rfl) fun cdv A outer s H vs Q E hr h => ?_⟩
  obtain ⟨s, x, S, fs, k, L, rfl, hM, hs, ho, hL, hW, hF, o⟩ := h
  obtain ⟨dx, v, p, t, hx, hv, ht, hp⟩ := hL.ex
  have g1 := G.c _ hM
  refine ⟨_, (pss_one (ps_ret (pe_and (pe_cmpR op_notN (pe_fld (pv 1) rfl) pe_non (nomark _)) (pe_one (pe_cmpR op_eq (pe_methX hr passE (pe_fld (pv 1) rfl) (pa_cons (pv 0) pa_nil)) pe_int (nomark _)))))), ?_⟩
  refine ⟨_, rfl, x, _, dx, _, t, rfl, hx, g1.cl, g1.n2, fld_test, rfl, _, rfl, ?_⟩
  unfold passOf at o
  cases e : L.test with
  | none =>
    rw [e] at ht o
    have ht : t = .non := ht
    subst ht
    exact iteF (o H (Same.refl _))
  | some T =>
    rw [e] at ht o
    obtain ⟨u, rfl, hu⟩ := ht
    refine iteT ?_
    obtain ⟨C1, dx1, fs1, sp1, e1, d1, l1, u1⟩ := hW.t T e u H hu
    refine ⟨_, rfl, x, _, dx, _, .ref u, rfl, hx, g1.cl, g1.n2, fld_test, u, C1, dx1, fs1, sp1, rfl, e1, d1, l1, _, rfl, u1 s S _ E H (Same.refl _) hs ho (hF.t T e) fun H1 s1 => ?_⟩
    have o1 := o H1 s1
    dsimp only at o1
    cases z : F2.worth fs k S T with
    | nought => rw [z] at o1; exact o1
    | outside => rw [z] at o1; exact o1
    | ok a =>
      rw [z] at o1
      refine ⟨rfl, ?_⟩
      have q : decide (V.int a = V.int 0) = decide (a = 0) := by
        by_cases y : a = 0
        · subst y; simp
        · rw [decide_eq_false y, decide_eq_false (fun q => y (by injection q))]
      rw [q]
      exact o1
/-! ### all nine folds -/
def spJ9 : Sp := fun vs H Q _ => ∃ f a b, vs = [.str f, .int a, .int b] ∧ f ∈ ST.folds ∧ Kin a ∧ Kin b ∧ Q (.int (ST.joinR f a b)) H
abbrev J9 (P : Program) (w : World) (K : PySem.W.Frag) (mg : Str → Option Value) (base : Heap) : Prop := Ok P w K mg base (CXe P w base) 3 "joined" ["fold", "run", "number"] spJ9
def mapRes (r : Res) (f : Int → Int) : Res := match r with
  | .ok n => .ok (f n)
  | e => e
def spNumL (P : Program) (w : World) (K : PySem.W.Frag) (mg : Str → Option Value) (base : Heap) (c : F2.Cs) (CN OU : Addr) (q : Scs) (M : Kd → Prop) (rm : Nat) : Sp := fun vs H Q E => ∃ (s x : Addr) (rv : Option Int) (S : SpotD) (fs : List F2.Fn) (k : Nat) (L : StepD), vs = [.ref s, .ref x, rvV rv] ∧ M L.kind ∧ F2.SpotAt c K H s S fs ∧ FM.SpotOk S ∧ F2.Bodies fs ∧ StepAt c q H L x ∧ StepW P w K mg base c CN OU rm fs k L ∧ ElOk fs k S L rv ∧ FM.Out CN OU (mapRes (F2.worth fs k S L.value) (numOf S L rv)) H Q E
theorem ok_numL {c : F2.Cs} {CN OU : Addr} {q : Scs} {M : Kd → Prop} {rm : Nat} (d : DefIn K mg "number_to_lay" s_number_to_lay ["spot", "step", "run"]) (hisi : mg "isinstance" = none) (hrm : 3 ≤ rm) (G : StepsK K mg q M) (JO : J9 P w K mg base) (CL : Ok P w K mg base (CXe P w base) 2 "cell_at" ["spot", "row", "place"] (spCell c.toCs K)) : Ok P w K mg base (CXe P w base) (rm + 1) "number_to_lay" ["spot", "step", "run"] (spNumL P w K mg base c CN OU q M rm) := by
  obtain ⟨g, fd, m, F, bd⟩ := d
  refine ⟨g, fd, m, F.kp, bd, F.okE sc_number_to_lay (fun vs H Q E ⟨_, _, _, _, _, _, _, e, _⟩ => by rw [e]; rfl) fun cdv A outer s H vs Q E hr h => ?_⟩
  obtain ⟨s, x, rv, S, fs, k, L, rfl, hM, hs, ho, hb, hL, hW, hE, o⟩ := h
  obtain ⟨dx, v, p, t, hx, hv, ht, hp⟩ := hL.ex
  have nd := sc_number_to_lay.nd
  have g1 := G.c _ hM
  have hr2 : Room 2 _ := hr.mono (by omega)
  have hr3 : Room 3 _ := hr.mono (by omega)
  refine ⟨_, (pss_cons (ps_set (i := 3) nd rfl (Or.inl rfl) (pe_methX hr passE (pe_fld (pv 1) rfl) (pa_cons (pv 0) pa_nil)))
      (pss_cons (ps_if (pt_val (pe_callB call_isinst (by rfl) hisi PyProof.Rows.boot_isinstance (pa_cons (pv 1) (pa_cons (pe_gref G.hFo) pa_nil)))) (pss_one (ps_ret (pe_ok JO hr3 (by rfl) passE (pa_cons (pe_fld (pv 1) rfl) (pa_cons (pe_ok CL hr2 (by rfl) passE (pa_cons (pv 0) (pa_cons (pe_fld (pv 1) rfl) (pa_cons pe_int pa_nil)))) (pa_cons (pv 3) pa_nil)))))) pss_nil)
      (pss_cons (ps_if (pw_and (pt_val (pe_callB call_isinst (by rfl) hisi PyProof.Rows.boot_isinstance (pa_cons (pv 1) (pa_cons (pe_gref G.hRu) pa_nil)))) (pw_and1 (pt_cmpR op_notN (pv 2) pe_non (nomark _)))).pt (pss_one (ps_ret (pe_ok JO hr3 (by rfl) passE (pa_cons (pe_fld (pv 1) rfl) (pa_cons (pv 2) (pa_cons (pv 3) pa_nil)))))) pss_nil)
      (pss_one (ps_ret (pv 3)))))), ?_⟩
  obtain ⟨C1, dx1, fs1, sp1, e1, d1, l1, u1⟩ := hW.v v H hv
  refine ⟨_, rfl, x, _, dx, _, .ref v, rfl, hx, g1.cl, g1.n1, fld_value, v, C1, dx1, fs1, sp1, rfl, e1, d1, l1, _, rfl, u1 s S _ E H (Same.refl _) hs ho hE.wf.v fun H1 s1 => ?_⟩
  have o1 : FM.Out CN OU _ H1 Q E := fun H' s' => o H' (s1.trans s')
  cases z : F2.worth fs k S L.value with
  | nought => rw [z] at o1; exact o1 H1 (Same.refl _)
  | outside => rw [z] at o1; exact o1 H1 (Same.refl _)
  | ok n =>
    rw [z] at o1
    have kn := F2.worth_kin hb ho hE.wf.v z
    have hx1 := s1 _ _ hx
    refine ⟨_, rfl, _, _, .ref q.fold, _, isF L.kind, rfl, rfl, (fun u r => r), step_ty g1 hx1, g1.kF, _, rfl, ?_⟩
    cases hk : L.kind with
    | fold f mm =>
      have q1 := hE.fo _ _ hk
      have ci := FM.cell_in ho hE.has (Int.le_refl 0) q1.2
      have ef : (ST.fieldsOf L v p t).lookup ("fold" : Str) = some (.str f) := by unfold ST.fieldsOf; rw [hk]; rfl
      have nf : NoAttr K (q.of L.kind) "fold" := by have := g1.nF (by rw [hk]; rfl); rw [hk]; exact this
      refine iteT ⟨_, rfl, x, _, dx, _, .str f, rfl, hx1, g1.cl, nf, ef, _, rfl, _, rfl, x, _, dx, _, .int L.target, rfl, hx1, g1.cl, g1.n0, fld_target, s, S, L.target, 0, rfl, (hs.same s1).old, hE.has.1, ci.1, ci.2.1, fun H2 s2 => ?_⟩
      refine ⟨_, rfl, f, _, _, rfl, q1.1, ci.2.2, kn, ?_⟩
      have e : numOf S L rv n = joinR f (S.cellAt L.target 0) n := by unfold numOf; rw [hk]
      have o2 := o1 H2 s2
      dsimp only [mapRes] at o2
      rw [e] at o2
      exact o2
    | let' =>
      have e : numOf S L rv n = n := by unfold numOf; rw [hk]
      dsimp only [mapRes] at o1
      rw [e] at o1
      refine iteF ?_
      refine ⟨_, rfl, _, _, .ref q.run, _, isR L.kind, rfl, rfl, (fun u r => r), step_ty g1 hx1, g1.kR, _, rfl, ?_⟩
      rw [hk]
      exact iteF (iteF ⟨_, rfl, o1 H1 (Same.refl _)⟩)
    | put pp mm =>
      have e : numOf S L rv n = n := by unfold numOf; rw [hk]
      dsimp only [mapRes] at o1
      rw [e] at o1
      refine iteF ?_
      refine ⟨_, rfl, _, _, .ref q.run, _, isR L.kind, rfl, rfl, (fun u r => r), step_ty g1 hx1, g1.kR, _, rfl, ?_⟩
      rw [hk]
      exact iteF (iteF ⟨_, rfl, o1 H1 (Same.refl _)⟩)
    | run f =>
      refine iteF ?_
      refine ⟨_, rfl, _, _, .ref q.run, _, isR L.kind, rfl, rfl, (fun u r => r), step_ty g1 hx1, g1.kR, _, rfl, ?_⟩
      have ef : (ST.fieldsOf L v p t).lookup ("fold" : Str) = some (.str f) := by unfold ST.fieldsOf; rw [hk]; rfl
      have nf : NoAttr K (q.of L.kind) "fold" := by have := g1.nR (by rw [hk]; rfl); rw [hk]; exact this
      have b1 : isR L.kind = true := by rw [hk]; rfl
      rw [b1]
      refine iteT ?_
      cases rv with
      | none =>
        have e : numOf S L none n = n := by unfold numOf; rw [hk]
        dsimp only [mapRes] at o1
        rw [e] at o1
        exact ⟨_, rfl, rfl, _, rfl, iteF ⟨_, rfl, o1 H1 (Same.refl _)⟩⟩
      | some r =>
        have e : numOf S L (some r) n = joinR f r n := by unfold numOf; rw [hk]
        dsimp only [mapRes] at o1
        rw [e] at o1
        exact ⟨_, rfl, rfl, _, rfl, iteT ⟨_, rfl, x, _, dx, _, .str f, rfl, hx1, g1.cl, nf, ef, _, rfl, _, rfl, f, _, _, rfl, hE.ru f hk, hE.rk r rfl, kn, o1 H1 (Same.refl _)⟩⟩
def spPlaceP (P : Program) (w : World) (K : PySem.W.Frag) (mg : Str → Option Value) (base : Heap) (c : F2.Cs) (CN OU : Addr) (q : Scs) (M : Kd → Prop) (rm : Nat) : Sp := fun vs H Q E => ∃ (s x : Addr) (rv : Option Int) (S : SpotD) (fs : List F2.Fn) (k : Nat) (L : StepD), vs = [.ref s, .ref x] ∧ M L.kind ∧ isP L.kind = true ∧ F2.SpotAt c K H s S fs ∧ FM.SpotOk S ∧ StepAt c q H L x ∧ StepW P w K mg base c CN OU rm fs k L ∧ ElOk fs k S L rv ∧ FM.Out CN OU (ST.placeOf fs k S L) H Q E
theorem ok_placeP {c : F2.Cs} {CN OU : Addr} {q : Scs} {M : Kd → Prop} {rm : Nat} {bm : List Value} {B newId initId : String} (d : DefIn K mg "place_put" s_place_put ["spot", "step"]) (hrm : 1 ≤ rm) (G : StepsK K mg q M) (LI : Ok P w K mg base (CXe P w base) 1 "lies_in" ["spot", "row", "place"] (spLies c.toCs K)) (OO : PyProof.Rows.OwnCls "Outside" OU bm newId mg base) (FB : ExcBaseFacts B newId initId bm) : Ok P w K mg base (CXe P w base) (rm + 1) "place_put" ["spot", "step"] (spPlaceP P w K mg base c CN OU q M rm) := by
  obtain ⟨g, fd, m, F, bd⟩ := d
  refine ⟨g, fd, m, F.kp, bd, F.okE sc_place_put (fun vs H Q E ⟨_, _, _, _, _, _, _, e, _⟩ => by rw [e]; rfl) fun cdv A outer s H vs Q E hr h => ?_⟩
  obtain ⟨s, x, rv, S, fs, k, L, rfl, hM, hP, hs, ho, hL, hW, hE, o⟩ := h
  obtain ⟨dx, v, p, t, hx, hv, ht, hp⟩ := hL.ex
  have nd := sc_place_put.nd
  have g1 := G.c _ hM
  have hr1 : Room 1 _ := hr.mono (by omega)
  refine ⟨_, (pss_cons (ps_set (i := 2) nd rfl (Or.inl rfl) (pe_methX hr passE (pe_fld (pv 1) rfl) (pa_cons (pv 0) pa_nil)))
      (pss_cons (ps_if (pt_not (pt_val (pe_ok LI hr1 (by rfl) passE (pa_cons (pv 0) (pa_cons (pe_fld (pv 1) rfl) (pa_cons (pv 2) pa_nil)))))) (pss_one (ps_raise OO FB rfl rfl throwE (pa_cons pe_str pa_nil))) pss_nil)
      (pss_one (ps_ret (pv 2))))), ?_⟩
  obtain ⟨pf, mm, hk⟩ : ∃ pf mm, L.kind = .put pf mm := by
    cases hk : L.kind with
    | put pf mm => exact ⟨pf, mm, rfl⟩
    | let' => rw [hk] at hP; cases hP
    | fold _ _ => rw [hk] at hP; cases hP
    | run _ => rw [hk] at hP; cases hP
  have ef : (ST.fieldsOf L v p t).lookup ("place" : Str) = some (.ref p) := by unfold ST.fieldsOf; rw [hk]; rfl
  have np : NoAttr K (q.of L.kind) "place" := by have := g1.nP (by rw [hk]; rfl); rw [hk]; exact this
  obtain ⟨C1, dx1, fs1, sp1, e1, d1, l1, u1⟩ := hW.p pf mm hk p H (hp pf mm hk)
  refine ⟨_, rfl, x, _, dx, _, .ref p, rfl, hx, g1.cl, np, ef, p, C1, dx1, fs1, sp1, rfl, e1, d1, l1, _, rfl, u1 s S _ E H (Same.refl _) hs ho (hE.wf.p pf mm hk) fun H1 s1 => ?_⟩
  have o1 : FM.Out CN OU _ H1 Q E := fun H' s' => o H' (s1.trans s')
  have ep : ST.placeOf fs k S L = (match F2.worth fs k S pf with
    | .ok q => if 0 ≤ q ∧ q < S.len L.target then .ok q else .outside
    | e => e) := by simp only [ST.placeOf, hk] <;> cases F2.worth fs k S pf <;> rfl
  rw [ep] at o1
  cases z : F2.worth fs k S pf with
  | nought => rw [z] at o1; exact o1 H1 (Same.refl _)
  | outside => rw [z] at o1; exact o1 H1 (Same.refl _)
  | ok n =>
    rw [z] at o1
    dsimp only at o1
    have hx1 := s1 _ _ hx
    refine ⟨_, rfl, _, rfl, x, _, dx, _, .int L.target, rfl, hx1, g1.cl, g1.n0, fld_target, _, rfl, s, S, L.target, n, rfl, (hs.same s1).old, hE.has, _, rfl, ?_⟩
    by_cases y : 0 ≤ n ∧ n < S.len L.target
    · rw [decide_eq_true y]
      rw [if_pos y] at o1
      exact iteF ⟨_, rfl, o1 H1 (Same.refl _)⟩
    · rw [decide_eq_false y]
      rw [if_neg y] at o1
      exact iteT ⟨by show 1 ≤ sizeLine; decide, o1 H1 (Same.refl _)⟩
def spPlaceL (P : Program) (w : World) (K : PySem.W.Frag) (mg : Str → Option Value) (base : Heap) (c : F2.Cs) (CN OU : Addr) (q : Scs) (M : Kd → Prop) (rm : Nat) : Sp := fun vs H Q E => ∃ (s x : Addr) (rv : Option Int) (S : SpotD) (fs : List F2.Fn) (k : Nat) (L : StepD), vs = [.ref s, .ref x] ∧ M L.kind ∧ F2.SpotAt c K H s S fs ∧ FM.SpotOk S ∧ StepAt c q H L x ∧ StepW P w K mg base c CN OU rm fs k L ∧ ElOk fs k S L rv ∧ FM.Out CN OU (ST.placeOf fs k S L) H Q E
theorem ok_placeL {c : F2.Cs} {CN OU : Addr} {q : Scs} {M : Kd → Prop} {rm : Nat} (d : DefIn K mg "place_to_lay" s_place_to_lay ["spot", "step"]) (hisi : mg "isinstance" = none) (sc : SpotC K c.spot) (G : StepsK K mg q M) (PP : Ok P w K mg base (CXe P w base) (rm + 1) "place_put" ["spot", "step"] (spPlaceP P w K mg base c CN OU q M rm)) : Ok P w K mg base (CXe P w base) (rm + 2) "place_to_lay" ["spot", "step"] (spPlaceL P w K mg base c CN OU q M rm) := by
  obtain ⟨g, fd, m, F, bd⟩ := d
  refine ⟨g, fd, m, F.kp, bd, F.okE sc_place_to_lay (fun vs H Q E ⟨_, _, _, _, _, _, _, e, _⟩ => by rw [e]; rfl) fun cdv A outer s H vs Q E hr h => ?_⟩
  obtain ⟨s, x, rv, S, fs, k, L, rfl, hM, hs, ho, hL, hW, hE, o⟩ := h
  obtain ⟨dx, v, p, t, hx, hv, ht, hp⟩ := hL.ex
  obtain ⟨dy, l, f', e, ow, h1, h2, h3, h4, h5⟩ := hs.ex
  have g1 := G.c _ hM
  have hr0 := hr
  refine ⟨_, (pss_cons (ps_if (pt_val (pe_callB call_isinst (by rfl) hisi PyProof.Rows.boot_isinstance (pa_cons (pv 1) (pa_cons (pe_gref G.hFo) pa_nil)))) (pss_one (ps_ret pe_int)) pss_nil)
      (pss_cons (ps_if (pt_val (pe_callB call_isinst (by rfl) hisi PyProof.Rows.boot_isinstance (pa_cons (pv 1) (pa_cons (pe_gref G.hPu) pa_nil)))) (pss_one (ps_ret (pe_ok PP hr0 (by rfl) passE (pa_cons (pv 0) (pa_cons (pv 1) pa_nil))))) pss_nil)
      (pss_one (ps_ret (pe_fld (pv 0) rfl))))), ?_⟩
  refine ⟨_, rfl, _, _, .ref q.fold, _, isF L.kind, rfl, rfl, (fun u r => r), step_ty g1 hx, g1.kF, _, rfl, ?_⟩
  by_cases bF : isF L.kind = true
  · rw [bF]
    refine iteT ?_
    have ep : ST.placeOf fs k S L = .ok 0 := by
      unfold ST.placeOf
      cases hk : L.kind with
      | fold f mm => rfl
      | let' => rw [hk] at bF; cases bF
      | put _ _ => rw [hk] at bF; cases bF
      | run _ => rw [hk] at bF; cases bF
    rw [ep] at o
    exact o H (Same.refl _)
  · rw [Bool.eq_false_iff.mpr bF]
    refine iteF ?_
    refine ⟨_, rfl, _, _, .ref q.put, _, isP L.kind, rfl, rfl, (fun u r => r), step_ty g1 hx, g1.kP, _, rfl, ?_⟩
    by_cases bP : isP L.kind = true
    · rw [bP]
      exact iteT ⟨_, rfl, _, rfl, s, x, rv, S, fs, k, L, rfl, hM, bP, hs, ho, hL, hW, hE, o⟩
    · rw [Bool.eq_false_iff.mpr bP]
      refine iteF ?_
      have ep : ST.placeOf fs k S L = .ok S.place := by
        unfold ST.placeOf
        cases hk : L.kind with
        | fold f mm => rw [hk] at bF; exact absurd rfl bF
        | let' => rfl
        | put _ _ => rw [hk] at bP; exact absurd rfl bP
        | run _ => rfl
      rw [ep] at o
      exact ⟨_, rfl, s, c.spot, dy, _, .int S.place, rfl, h1, sc.c, sc.n3, rfl, o H (Same.refl _)⟩
/-- a spot over the cells at ca, all else in B -/
structure SpotB (c : F2.Cs) (K : PySem.W.Frag) (B : Hp) (s ca : Addr) (S : SpotD) (fs : List F2.Fn) : Prop where
  ex : ∃ dx l f o, B s = some (.ins c.spot dx [("lengths", .ref l), ("functions", .ref f), ("cells", .ref ca), ("place", .int S.place), ("own", .ref o)]) ∧ SqL K B l (S.lens.map V.int) ∧ F2.FunsAt c K B f fs ∧ SqL K B o (S.own.map V.int)
theorem SpotB.at {c : F2.Cs} {K : PySem.W.Frag} {B H : Hp} {s ca : Addr} {S : SpotD} {fs : List F2.Fn} (h : SpotB c K B s ca S fs) (hd : Hd B [(ca, .lst (S.cells.map V.int))] H) : F2.SpotAt c K H s S fs := by
  obtain ⟨dx, l, f, o, a, b, d, e⟩ := h.ex
  exact ⟨dx, l, f, ca, o, hd.sm _ _ a, hd.sql b, d.same hd.sm, hd.lst 0 rfl, hd.sql e⟩
def spElem (P : Program) (w : World) (K : PySem.W.Frag) (mg : Str → Option Value) (base : Heap) (c : F2.Cs) (CN OU : Addr) (q : Scs) (M : Kd → Prop) (rm : Nat) : Sp := fun vs H Q E => ∃ (s x ca : Addr) (B : Hp) (rv : Option Int) (S : SpotD) (fs : List F2.Fn) (k : Nat) (L : StepD), vs = [.ref s, .ref x, rvV rv] ∧ M L.kind ∧ Hd B [(ca, .lst (S.cells.map V.int))] H ∧ SpotB c K B s ca S fs ∧ FM.SpotOk S ∧ F2.Bodies fs ∧ StepAt c q B L x ∧ StepW P w K mg base c CN OU rm fs k L ∧ ElOk fs k S L rv ∧
  ∀ H', match elOf fs k S L rv with
    | .skip => Hd B [(ca, .lst (S.cells.map V.int))] H' → Q (rvV rv) H'
    | .lay j n => Hd B [(ca, .lst ((S.cells.set (S.start L.target + j).toNat n).map V.int))] H' → Q (.int n) H'
    | .no .nought => Hd B [(ca, .lst (S.cells.map V.int))] H' → E (.ref CN) none H'
    | .no .outside => Hd B [(ca, .lst (S.cells.map V.int))] H' → E (.ref OU) none H'
    | .no (.ok _) => True
theorem ok_elem {c : F2.Cs} {CN OU : Addr} {q : Scs} {M : Kd → Prop} {rm : Nat} (d : DefIn K mg "element_played" s_element_played ["spot", "step", "run"]) (sc : SpotC K c.spot) (G : StepsK K mg q M) (hrm : 1 ≤ rm) (SO : Ok P w K mg base (CXe P w base) 1 "start_of" ["lengths", "row"] (spStart K))
    (IP : Ok P w K mg base (CXe P w base) (rm + 2) "is_passed_over" ["spot", "step"] (spPass P w K mg base c CN OU q M rm)) (NL : Ok P w K mg base (CXe P w base) (rm + 2) "number_to_lay" ["spot", "step", "run"] (spNumL P w K mg base c CN OU q M rm)) (PL : Ok P w K mg base (CXe P w base) (rm + 2) "place_to_lay" ["spot", "step"] (spPlaceL P w K mg base c CN OU q M rm)) :
    Ok P w K mg base (CXe P w base) (rm + 3) "element_played" ["spot", "step", "run"] (spElem P w K mg base c CN OU q M rm) := by
  obtain ⟨g, fd, m, F, bd⟩ := d
  refine ⟨g, fd, m, F.kp, bd, F.okE sc_element_played (fun vs H Q E ⟨_, _, _, _, _, _, _, _, _, e, _⟩ => by rw [e]; rfl) fun cdv A outer s H vs Q E hr h => ?_⟩
  obtain ⟨s, x, ca, B, rv, S, fs, k, L, rfl, hM, h, hsB, ho, hb, hL, hW, hE, o⟩ := h
  have nd := sc_element_played.nd
  have g1 := G.c _ hM
  have hr0 := hr
  have hr1 : Room 1 _ := hr.mono (by omega)
  refine ⟨_, (pss_cons (ps_if (pt_val (pe_ok IP hr0 (by rfl) passE (pa_cons (pv 0) (pa_cons (pv 1) pa_nil)))) (pss_one (ps_ret (pv 2))) pss_nil)
      (pss_cons (ps_set (i := 3) nd rfl (Or.inl rfl) (pe_ok NL hr0 (by rfl) passE (pa_cons (pv 0) (pa_cons (pv 1) (pa_cons (pv 2) pa_nil)))))
      (pss_cons (ps_set (i := 4) nd rfl (Or.inl rfl) (pe_ok PL hr0 (by rfl) passE (pa_cons (pv 0) (pa_cons (pv 1) pa_nil))))
      (pss_cons (ps_asg (pv 3) (pg_sub (pe_fld (pv 0) rfl) (pe_op op_add (pe_ok SO hr1 (by rfl) passF (pa_cons (pe_fld (pv 0) rfl) (pa_cons (pe_fld (pv 1) rfl) pa_nil))) (pv 4)) set_list))
      (pss_one (ps_ret (pv 3))))))), ?_⟩
  refine ⟨_, rfl, _, rfl, s, x, S, fs, k, L, rfl, hM, hsB.at h, ho, hL.same h.sm, hW, hE.wf, fun H1 s1 => ?_⟩
  have h := h.same s1
  unfold elOf at o
  cases z : passOf fs k S L with
  | no e =>
    rw [z] at o
    have o1 := o H1
    cases e with
    | ok _ => trivial
    | nought => exact o1 h
    | outside => exact o1 h
  | b v =>
    rw [z] at o
    refine ⟨_, rfl, ?_⟩
    cases v with
    | true => exact iteT ⟨_, rfl, o H1 h⟩
    | false =>
      refine iteF ?_
      refine ⟨_, rfl, _, rfl, _, rfl, s, x, rv, S, fs, k, L, rfl, hM, hsB.at h, ho, hb, hL.same h.sm, hW, hE, fun H2 s2 => ?_⟩
      have h := h.same s2
      cases y : F2.worth fs k S L.value with
      | nought => have o1 := o H2; rw [y] at o1; exact o1 h
      | outside => have o1 := o H2; rw [y] at o1; exact o1 h
      | ok n =>
        refine ⟨_, rfl, _, rfl, s, x, rv, S, fs, k, L, rfl, hM, hsB.at h, ho, hL.same h.sm, hW, hE, fun H3 s3 => ?_⟩
        have h := h.same s3
        cases yp : ST.placeOf fs k S L with
        | nought => have o1 := o H3; rw [y] at o1; dsimp only at o1; rw [yp] at o1; exact o1 h
        | outside => have o1 := o H3; rw [y] at o1; dsimp only at o1; rw [yp] at o1; exact o1 h
        | ok j =>
          obtain ⟨dy, l, f', ow, h1, h2, h3, h4⟩ := hsB.ex
          obtain ⟨dx, v, p, t, hx, hv, ht, hp⟩ := hL.ex
          have li := lay_in ho hE yp
          refine ⟨_, rfl, _, rfl, s, c.spot, dy, _, .ref ca, rfl, h.sm _ _ h1, sc.c, sc.n2, rfl, _, rfl, s, c.spot, dy, _, .ref l, rfl, h.sm _ _ h1, sc.c, sc.n0, rfl, _, rfl, x, _, dx, _, .int L.target, rfl, h.sm _ _ hx, g1.cl, g1.n0, fld_target, l, S.lens, L.target, rfl, h.sql h2, hE.has.1, fun H4 s4 => ?_⟩
          have h := h.same s4
          refine ⟨_, rfl, _, _, rfl, rfl, ca, _, _, (S.start L.target + j).toNat, rfl, rfl, h.get 0 rfl, ?_, ?_⟩
          · rw [List.length_map]; exact ixN_nat li.1 li.2
          rw [set_ints]
          have o1 := o (upd H4 ca (.lst ((S.cells.set (S.start L.target + j).toNat (numOf S L rv n)).map V.int)))
          rw [y] at o1
          dsimp only at o1
          rw [yp] at o1
          exact ⟨_, rfl, o1 (h.put 0 rfl)⟩
end
end K16

namespace K16
open PySem L2 FM ST
section
variable {P : Program} {w : World} {K : PySem.W.Frag} {mg : Str → Option Value} {base : Heap}
structure ExcK (K : PySem.W.Frag) (mg : Str → Option Value) (CN OU : Addr) : Prop where
  hN : mg "ByNought" = some (.ref CN)
  hO : mg "Outside" = some (.ref OU)
  nn : PySem.W.exmOne K (.ref CN) (.ref CN) = some true
  on : PySem.W.exmOne K (.ref OU) (.ref CN) = some false
  oo : PySem.W.exmOne K (.ref OU) (.ref OU) = some true
structure ProgC (K : PySem.W.Frag) (PR : Addr) : Prop where
  c : Cls K PR
  n0 : NoAttr K PR "lengths"
  n1 : NoAttr K PR "functions"
  n2 : NoAttr K PR "steps"
def spMany (K : PySem.W.Frag) (q : Scs) (kd : Kd) : Sp := fun vs H Q _ => ∃ (x l dx v p : Addr) (lens : List Int) (L : StepD) (t : V), vs = [.ref x, .ref l] ∧ L.kind = kd ∧ H x = some (.ins (q.of kd) dx (ST.fieldsOf L v p t)) ∧ SqL K H l (lens.map V.int) ∧ 0 ≤ L.target ∧ L.target.toNat < lens.length ∧ Q (.int (manyOf lens L)) H
abbrev ManyK (P : Program) (w : World) (K : PySem.W.Frag) (mg : Str → Option Value) (base : Heap) (q : Scs) (M : Kd → Prop) : Prop := ∀ kd, M kd → DispX P w K mg base (CXe P w base) 1 "many_of" (q.of kd) (spMany K q kd)
def FinL (B : Hp) (ca : Addr) (num : Int) (r : List Int × Option (Nat × Res)) (Q : VK) : Prop := match r with
  | (cs, none) => ∀ H', Hd B [(ca, .lst (cs.map V.int))] H' → Q .non H'
  | (cs, some (p, e)) => ∀ H' t, Hd B [(t, .tup [.int num, .int p, .str (kindS e)]), (ca, .lst (cs.map V.int))] H' → Q (.ref t) H'
def spEls (P : Program) (w : World) (K : PySem.W.Frag) (mg : Str → Option Value) (base : Heap) (c : F2.Cs) (CN OU : Addr) (q : Scs) (M : Kd → Prop) (PR : Addr) (rm : Nat) : Sp := fun vs H Q _ => ∃ (pr dx l f ca x : Addr) (st : V) (B : Hp) (fs : List F2.Fn) (k : Nat) (lens cs : List Int) (L : StepD) (num : Int), vs = [.ref pr, .ref ca, .ref x, .int num] ∧ M L.kind ∧ Hd B [(ca, .lst (cs.map V.int))] H ∧
  B pr = some (.ins PR dx [("lengths", .ref l), ("functions", .ref f), ("steps", st)]) ∧ SqL K B l (lens.map V.int) ∧ F2.FunsAt c K B f fs ∧ StepAt c q B L x ∧ StepW P w K mg base c CN OU rm fs k L ∧ StepOk fs k lens L ∧ CellsOk lens cs ∧ FinL B ca num (runS fs k lens L (manyOf lens L).toNat 0 none cs) Q
theorem ok_els {c : F2.Cs} {CN OU PR : Addr} {q : Scs} {M : Kd → Prop} {rm : Nat} (d : DefIn K mg "elements_played" s_elements_played ["program", "cells", "step", "number"]) (hrg : mg "range" = none) (sc : SpotC K c.spot) (pc : ProgC K PR) (X : ExcK K mg CN OU) (G : StepsK K mg q M) (hCs : mg "Spot" = some (.ref c.spot))
    (IS : OkI P w K mg base (CXe P w base) 1 c.spot ["self", "lengths", "functions", "cells", "place", "own"] (spI_Spot c.spot)) (MO : ManyK P w K mg base q M) (EL : Ok P w K mg base (CXe P w base) (rm + 3) "element_played" ["spot", "step", "run"] (spElem P w K mg base c CN OU q M rm)) :
    Ok P w K mg base CX0 (rm + 4) "elements_played" ["program", "cells", "step", "number"] (spEls P w K mg base c CN OU q M PR rm) := by
  obtain ⟨g, fd, m, F, bd⟩ := d
  refine ⟨g, fd, m, F.kp, bd, F.ok sc_elements_played (fun vs H Q E ⟨_, _, _, _, _, _, _, _, _, _, _, _, _, _, e, _⟩ => by rw [e]; rfl) fun cdv A outer s H vs Q E hr h => ?_⟩
  obtain ⟨pr, dx, l, f, ca, x, st, B, fs, k, lens, cs, L, num, rfl, hM, h, hpr, hl, hf, hL, hW, hO, hC, fin⟩ := h
  have nd := sc_elements_played.nd
  have hrE := hr
  have hr1 : Room 1 _ := hr.mono (by omega)
  have hr2 : Room 2 _ := hr.mono (by omega)
  refine ⟨_, (pss_cons (ps_set (i := 4) nd rfl (Or.inl rfl) pe_non)
      (pss_cons (ps_for PassesOwn.never rfl (pi_range1 rfl hrg (pa_cons (pe_methX (CX := CXe P w base) hr1 passF (pv 2) (pa_cons (pe_fld (pv 0) rfl) pa_nil)) pa_nil)) (pg_name (i := 5) nd rfl (Or.inl rfl)) (pss_cons (ps_set (i := 6) nd rfl (Or.inl rfl) (pe_okI IS hCs hr2 (by rfl) passF (pa_cons (pe_fld (pv 0) rfl) (pa_cons (pe_fld (pv 0) rfl) (pa_cons (pv 1) (pa_cons (pv 5) (pa_cons (pe_lst pa_nil) pa_nil)))))))
      (pss_one (ps_try (t := fun R => tAsg (tCall (spElem P w K mg base c CN OU q M rm) [] (XE R) (tCons (tVar 6) (tCons (tVar 2) (tCons (tVar 4) tNil)))) (gName 4)) rfl rfl (by intro pins σ₀ R ok; exact ps1_set (i := 4) nd rfl (Or.inl rfl) (pe1_ok (E := XE R) EL hrE rfl (pass_tr (pins := pins) (σ₀ := σ₀) ok) (pa_cons (pv 6) (pa_cons (pv 2) (pa_cons (pv 4) pa_nil))))) (ph_no rfl rfl X.hN (fun e => (pss_one (ps_ret (pe_tup (pa_cons (pv 3) (pa_cons (pv 5) (pa_cons pe_str pa_nil))))))) (ph_no rfl rfl X.hO (fun e => (pss_one (ps_ret (pe_tup (pa_cons (pv 3) (pa_cons (pv 5) (pa_cons pe_str pa_nil))))))) ph_nil))))))
      (pss_one (ps_ret pe_non)))), ?_⟩
  obtain ⟨dxl, v, p, t, hx, hv, ht, hp⟩ := hL.ex
  have v0 := hO.m0
  have v4 := hO.m1
  refine ⟨_, rfl, x, _, dxl, _, _, rfl, h.sm _ _ hx, MO _ hM, fld_many_of, _, rfl, pr, PR, dx, _, .ref l, rfl, h.sm _ _ hpr, pc.c, pc.n0, rfl, x, l, dxl, v, p, lens, L, t, rfl, rfl, h.sm _ _ hx, h.sql hl, hO.t0, hO.t1, _, rfl, (by show -(2 ^ 62) ≤ manyOf lens L; omega), (by show manyOf lens L < 2 ^ 62; omega), ?_⟩
  refine for_range (n := (manyOf lens L).toNat) (fun i σ J => ∃ (rv : Option Int) (u5 u6 : Option V) (cs' : List Int), σ = [some (.ref pr), some (.ref ca), some (.ref x), some (.int num), some (rvV rv), u5, u6] ∧ (∀ r, rv = some r → Kin r) ∧ Hd B [(ca, .lst (cs'.map V.int))] J ∧ CellsOk lens cs' ∧ FinL B ca num (runS fs k lens L ((manyOf lens L).toNat - i) i rv cs') Q) ⟨none, none, none, cs, rfl, (fun r e => by cases e), h, hC, fin⟩ ?_ ?_
  · clear h hC fin cs
    rintro i σ J hi ⟨rv, u5, u6, cs, rfl, hrv, h, hC, fin⟩
    obtain ⟨so, eo⟩ := spot_ok (p := i) (rv := rv) hO hC (by omega) hrv
    refine ⟨_, rfl, pr, PR, dx, _, .ref l, rfl, h.sm _ _ hpr, pc.c, pc.n0, rfl, _, rfl, pr, PR, dx, _, .ref f, rfl, h.sm _ _ hpr, pc.c, pc.n1, rfl, _, rfl, _, rfl, (by show 0 ≤ sizeLine; decide), fun l2 n2 => ?_⟩
    have h : Hd B [(l2, .lst []), (ca, .lst (cs.map V.int))] _ := h.new n2
    generalize upd J l2 (.lst []) = J1 at h ⊢
    refine fun xs dxs nxs ndxs ne => ⟨xs, dxs, _, _, _, _, _, rfl, upd_same, fun J2 k2 e2 => ⟨rfl, ?_⟩⟩
    have h := h.made0 nxs ndxs ne k2 e2
    have hca := h.get 3 rfl
    have hb := Hd.but1 hca
    have nca : ∀ {b : Addr} {o : HO}, B b = some o → but J2 [ca] b = some o := fun z => but_of (h.sm _ _ z) (by
      intro y
      have y := List.mem_singleton.mp y
      subst y
      rw [h.nw _ (List.mem_of_getElem? (i := 3) rfl)] at z
      cases z)
    have sB : Same B (but J2 [ca]) := fun b o z => nca z
    have hxs : but J2 [ca] xs = some (.ins c.spot dxs [("lengths", .ref l), ("functions", .ref f), ("cells", .ref ca), ("place", .int (0 + i)), ("own", .ref l2)]) := but_of e2 (by
      intro y
      have y := List.mem_singleton.mp y
      exact h.ne 0 3 rfl rfl (by decide) y)
    have hl2 : but J2 [ca] l2 = some (.lst []) := but_of (h.get 2 rfl) (by
      intro y
      have y := List.mem_singleton.mp y
      exact h.ne 2 3 rfl rfl (by decide) y)
    have eS : (0 + (i : Int)) = (i : Int) := by omega
    rw [eS] at hxs
    have sb : SpotB c K (but J2 [ca]) xs ca ⟨lens, cs, i, []⟩ fs := ⟨dxs, l, f, l2, hxs, sql_same hl sB, hf.same sB, SqL.of hl2⟩
    obtain ⟨nn, hnn⟩ : ∃ nn, (manyOf lens L).toNat - i = nn + 1 := ⟨(manyOf lens L).toNat - i - 1, by omega⟩
    have hnn' : (manyOf lens L).toNat - (i + 1) = nn := by omega
    rw [hnn] at fin
    have rr : runS fs k lens L (nn + 1) i rv cs = (match elOf fs k ⟨lens, cs, i, []⟩ L rv with
      | .skip => runS fs k lens L nn (i + 1) rv cs
      | .lay j v => runS fs k lens L nn (i + 1) (some v) (cs.set (startOf lens L.target + j).toNat v)
      | .no e => (cs, some (i, e))) := rfl
    rw [rr] at fin
    refine ⟨fun C H' => ∃ e, elOf fs k ⟨lens, cs, i, []⟩ L rv = .no e ∧ ((e = .nought ∧ C = CN) ∨ (e = .outside ∧ C = OU)) ∧ Hd B [(ca, .lst (cs.map V.int))] H', ?_, ?_⟩
    · refine ⟨_, rfl, _, rfl, _, rfl, xs, x, ca, but J2 [ca], rv, ⟨lens, cs, i, []⟩, fs, k, L, rfl, hM, hb, sb, so, hO.hb, hL.same sB, hW, eo, fun H' => ?_⟩
      cases ee : elOf fs k ⟨lens, cs, i, []⟩ L rv with
      | skip =>
        rw [ee] at fin
        exact fun hh => ⟨rv, _, _, cs, rfl, hrv, hh.weak sB, hC, by rw [hnn']; exact fin⟩
      | lay j v =>
        rw [ee] at fin
        have kv := lay_kin hO.hb so eo ee
        exact fun hh => ⟨some v, _, _, _, rfl, (fun r e => by injection e with e; subst e; exact kv), hh.weak sB, hC.set kv, by rw [hnn']; exact fin⟩
      | no e =>
        cases e with
        | ok _ => trivial
        | nought => exact fun hh => ⟨CN, rfl, .nought, rfl, .inl ⟨rfl, rfl⟩, hh.weak sB⟩
        | outside => exact fun hh => ⟨OU, rfl, .outside, rfl, .inr ⟨rfl, rfl⟩, hh.weak sB⟩
    · rintro ex C H' nex ⟨e, ee, hCe, hh⟩
      rw [ee] at fin
      have hh2 := (hh.new (o := excO ex C) nex).tl
      rcases hCe with ⟨rfl, rfl⟩ | ⟨rfl, rfl⟩
      · refine ⟨true, X.nn, iteT ?_⟩
        refine ⟨_, rfl, _, rfl, (by show 3 ≤ sizeLine; decide), fun t nt => ?_⟩
        rw [eS]
        exact fin _ t (hh2.new nt)
      · refine ⟨false, X.on, iteF ⟨true, X.oo, iteT ?_⟩⟩
        refine ⟨_, rfl, _, rfl, (by show 3 ≤ sizeLine; decide), fun t nt => ?_⟩
        rw [eS]
        exact fin _ t (hh2.new nt)
  · clear h hC fin cs
    rintro σ J ⟨rv, u5, u6, cs, rfl, hrv, h, hC, fin⟩
    rw [Nat.sub_self] at fin
    exact fin J h
end
end K16

/-! ### steps within Tills, and what they come to -/
namespace ST
open PySem L2 FM
inductive Stp
  | one (L : StepD)
  | till (t most : Int) (ss : List Stp)
abbrev R := List Int × Option (Int × Int × Str)
def outR (num : Int) (r : List Int × Option (Nat × Res)) : R := (r.1, r.2.map fun pe => (num, (pe.1 : Int), kindS pe.2))
def oneR (fs : List F2.Fn) (k : Nat) (lens : List Int) (L : StepD) (num : Int) (cs : List Int) : R := outR num (runS fs k lens L (manyOf lens L).toNat 0 none cs)
def rowOf (lens : List Int) (t : Int) (cs : List Int) : List Int := cutI cs (lens.take t.toNat).sum (lens.take (t.toNat + 1)).sum
def rowAny (lens : List Int) (t : Int) (cs : List Int) : Bool := (rowOf lens t cs).any fun v => decide (v ≠ 0)
def turnsR (play : List Int → R) (look : List Int → Bool) (num : Int) : Nat → Nat → List Int → R
  | 0, made, cs => (cs, some (num, (made : Int), "endless"))
  | n + 1, made, cs => match play cs with
    | (cs', none) => if look cs' = true then (cs', none) else turnsR play look num n (made + 1) cs'
    | (cs', some r) => (cs', some r)
def countD : Nat → Stp → Int
  | _, .one _ => 1
  | 0, .till _ _ _ => 1
  | d + 1, .till _ _ ss => 1 + (ss.map (countD d)).sum
def stepR (fs : List F2.Fn) (k : Nat) (lens : List Int) (pl : List Stp → Int → List Int → R) : Stp → Int → List Int → R
  | .one L, num, cs => oneR fs k lens L num cs
  | .till t most ss, num, cs => turnsR (pl ss (num + 1)) (rowAny lens t) num most.toNat 0 cs
def listR (st : Stp → Int → List Int → R) (cnt : Stp → Int) : List Stp → Int → List Int → R
  | [], _, cs => (cs, none)
  | s :: ss, num, cs => match st s num cs with
    | (cs', none) => listR st cnt ss (num + cnt s) cs'
    | (cs', some r) => (cs', some r)
/-- the play of a list of steps, Tills d deep -/
def playR (fs : List F2.Fn) (k : Nat) (lens : List Int) : Nat → List Stp → Int → List Int → R
  | 0 => listR (stepR fs k lens fun _ _ cs => (cs, none)) (countD 0)
  | d + 1 => listR (stepR fs k lens (playR fs k lens d)) (countD (d + 1))
def prevR (fs : List F2.Fn) (k : Nat) (lens : List Int) : Nat → List Stp → Int → List Int → R
  | 0 => fun _ _ cs => (cs, none)
  | d + 1 => playR fs k lens d
theorem playR_eq {fs : List F2.Fn} {k : Nat} {lens : List Int} {d : Nat} : playR fs k lens d = listR (stepR fs k lens (prevR fs k lens d)) (countD d) := by
  cases d <;> rfl
def StpAt (c : F2.Cs) (q : Scs) (K : PySem.W.Frag) (H : Hp) : Nat → Stp → Addr → Prop
  | _, .one L, x => StepAt c q H L x
  | 0, .till _ _ _, _ => False
  | d + 1, .till t m ss, x => ∃ (dx sa : Addr) (xs : List Addr), H x = some (.ins q.till dx [("target", .int t), ("most", .int m), ("steps", .ref sa)]) ∧ SqL K H sa (xs.map V.ref) ∧ xs.length = ss.length ∧ ∀ (i : Nat) (s : Stp) (y : Addr), ss[i]? = some s → xs[i]? = some y → StpAt c q K H d s y
theorem StpAt.same {c : F2.Cs} {q : Scs} {K : PySem.W.Frag} {H H' : Hp} (sm : Same H H') : ∀ {d : Nat} {s : Stp} {x : Addr}, StpAt c q K H d s x → StpAt c q K H' d s x
  | 0, .one L, x, h => StepAt.same h sm
  | 0, .till _ _ _, _, h => h.elim
  | _ + 1, .one L, x, h => StepAt.same h sm
  | d + 1, .till t m ss, x, ⟨dx, sa, xs, a, b, e, f⟩ => ⟨dx, sa, xs, sm _ _ a, sql_same b sm, e, fun i s y z w => StpAt.same sm (f i s y z w)⟩
/-- a list of steps at sa -/
structure StpsAt (c : F2.Cs) (q : Scs) (K : PySem.W.Frag) (H : Hp) (d : Nat) (ss : List Stp) (sa : Addr) : Prop where
  ex : ∃ xs : List Addr, SqL K H sa (xs.map V.ref) ∧ xs.length = ss.length ∧ ∀ (i : Nat) (s : Stp) (y : Addr), ss[i]? = some s → xs[i]? = some y → StpAt c q K H d s y
theorem StpsAt.same {c : F2.Cs} {q : Scs} {K : PySem.W.Frag} {H H' : Hp} {d : Nat} {ss : List Stp} {sa : Addr} (h : StpsAt c q K H d ss sa) (sm : Same H H') : StpsAt c q K H' d ss sa := by
  obtain ⟨xs, a, b, e⟩ := h.ex
  exact ⟨xs, sql_same a sm, b, fun i s y z w => (e i s y z w).same sm⟩
/-- what is asked of the steps -/
def StpG (P : Program) (w : World) (K : PySem.W.Frag) (mg : Str → Option Value) (base : Heap) (c : F2.Cs) (CN OU : Addr) (M : Kd → Prop) (rm : Nat) (fs : List F2.Fn) (k : Nat) (lens : List Int) : Nat → Stp → Prop
  | _, .one L => M L.kind ∧ StepW P w K mg base c CN OU rm fs k L ∧ StepOk fs k lens L
  | 0, .till _ _ _ => False
  | d + 1, .till t m ss => 0 ≤ t ∧ t.toNat < lens.length ∧ 0 ≤ m ∧ m ≤ 1000 ∧ ∀ s ∈ ss, StpG P w K mg base c CN OU M rm fs k lens d s
theorem one_at {c : F2.Cs} {q : Scs} {K : PySem.W.Frag} {H : Hp} {d : Nat} {L : StepD} {x : Addr} (h : StpAt c q K H d (.one L) x) : StepAt c q H L x := by
  cases d <;> exact h
theorem at_one {c : F2.Cs} {q : Scs} {K : PySem.W.Frag} {H : Hp} {d : Nat} {L : StepD} {x : Addr} (h : StepAt c q H L x) : StpAt c q K H d (.one L) x := by
  cases d <;> exact h
theorem one_g {P : Program} {w : World} {K : PySem.W.Frag} {mg : Str → Option Value} {base : Heap} {c : F2.Cs} {CN OU : Addr} {M : Kd → Prop} {rm : Nat} {fs : List F2.Fn} {k : Nat} {lens : List Int} {d : Nat} {L : StepD} (h : StpG P w K mg base c CN OU M rm fs k lens d (.one L)) : M L.kind ∧ StepW P w K mg base c CN OU rm fs k L ∧ StepOk fs k lens L := by
  cases d <;> exact h
theorem g_one {P : Program} {w : World} {K : PySem.W.Frag} {mg : Str → Option Value} {base : Heap} {c : F2.Cs} {CN OU : Addr} {M : Kd → Prop} {rm : Nat} {fs : List F2.Fn} {k : Nat} {lens : List Int} {d : Nat} {L : StepD} (h : M L.kind ∧ StepW P w K mg base c CN OU rm fs k L ∧ StepOk fs k lens L) : StpG P w K mg base c CN OU M rm fs k lens d (.one L) := by
  cases d <;> exact h
theorem count_one {d : Nat} {L : StepD} : countD d (.one L) = 1 := by cases d <;> rfl
/-- the cells stay as many, and kept -/
theorem turnsR_ok {lens : List Int} {play : List Int → R} {look : List Int → Bool} {num : Int} (h : ∀ cs, CellsOk lens cs → CellsOk lens (play cs).1) : ∀ (n made : Nat) (cs : List Int), CellsOk lens cs → CellsOk lens (turnsR play look num n made cs).1
  | 0, _, _, hc => hc
  | n + 1, made, cs, hc => by
    have q := h cs hc
    unfold turnsR
    cases e : play cs with
    | mk cs' r =>
      rw [e] at q
      cases r with
      | none =>
        dsimp only
        split
        · exact q
        · exact turnsR_ok h n (made + 1) cs' q
      | some r => exact q
theorem listR_ok {lens : List Int} {st : Stp → Int → List Int → R} {cnt : Stp → Int} : ∀ (ss : List Stp), (∀ s ∈ ss, ∀ num cs, CellsOk lens cs → CellsOk lens (st s num cs).1) → ∀ (num : Int) (cs : List Int), CellsOk lens cs → CellsOk lens (listR st cnt ss num cs).1
  | [], _, _, _, hc => hc
  | s :: ss, h, num, cs, hc => by
    have q := h s List.mem_cons_self num cs hc
    unfold listR
    cases e : st s num cs with
    | mk cs' r =>
      rw [e] at q
      cases r with
      | none => exact listR_ok ss (fun t ht => h t (List.mem_cons_of_mem _ ht)) _ cs' q
      | some r => exact q
theorem oneR_ok {fs : List F2.Fn} {k : Nat} {lens : List Int} {L : StepD} {num : Int} {cs : List Int} (h : StepOk fs k lens L) (hc : CellsOk lens cs) : CellsOk lens (oneR fs k lens L num cs).1 :=
  runS_cells h _ 0 none cs (by have := h.m0; omega) hc fun r e => by cases e
theorem playR_ok {P : Program} {w : World} {K : PySem.W.Frag} {mg : Str → Option Value} {base : Heap} {c : F2.Cs} {CN OU : Addr} {M : Kd → Prop} {rm : Nat} {fs : List F2.Fn} {k : Nat} {lens : List Int} : ∀ (d : Nat) (ss : List Stp), (∀ s ∈ ss, StpG P w K mg base c CN OU M rm fs k lens d s) → ∀ (num : Int) (cs : List Int), CellsOk lens cs → CellsOk lens (playR fs k lens d ss num cs).1
  | 0, ss, h, num, cs, hc => by
    refine listR_ok ss (fun s hs num cs hc => ?_) num cs hc
    cases s with
    | one L => exact oneR_ok (h _ hs).2.2 hc
    | till t m ss => exact (h _ hs).elim
  | d + 1, ss, h, num, cs, hc => by
    refine listR_ok ss (fun s hs num cs hc => ?_) num cs hc
    cases s with
    | one L => exact oneR_ok (h _ hs).2.2 hc
    | till t m ss => exact turnsR_ok (fun cs hc => playR_ok d ss (h _ hs).2.2.2.2 _ cs hc) _ _ cs hc
end ST

namespace K16
open PySem L2 FM ST
section
variable {P : Program} {w : World} {K : PySem.W.Frag} {mg : Str → Option Value} {base : Heap}
/-- the class Till -/
structure TillC (K : PySem.W.Frag) (q : Scs) : Prop where
  cl : Cls K q.till
  n0 : NoAttr K q.till "target"
  n1 : NoAttr K q.till "most"
  n2 : NoAttr K q.till "steps"
  k1 : PySem.W.findIn K (.ref q.till) "__class__" = some (some (.builtin "object.__class__"))
  k2 : PySem.W.specialIn K (.builtin "object.__class__") "__get__" = some (some (.builtin "getset_descriptor.__get__"))
  k3 : PySem.W.takesIn K (.builtin "object.__class__") = some true
  k4 : PySem.W.mroIn K q.till (.type "object") = some true
  kT : PySem.W.kitOne K (.ref q.till) (.ref q.till) = some true
theorem till_ty {q : Scs} {H : Hp} {x dx : Addr} {fl : List (Str × V)} (s : TillC K q) (h : H x = some (.ins q.till dx fl)) : TyX K H (.ref x) (.ref q.till) := .inl (.ins h s.cl s.k1 s.k2 s.k3 s.k4)
/-- all kinds in the steps are of M -/
def KindsM (M : Kd → Prop) : Nat → Stp → Prop
  | _, .one L => M L.kind
  | 0, .till _ _ _ => True
  | d + 1, .till _ _ ss => ∀ s ∈ ss, KindsM M d s
theorem one_m {M : Kd → Prop} {d : Nat} {L : StepD} (h : KindsM M d (.one L)) : M L.kind := by cases d <;> exact h
theorem g_kinds {c : F2.Cs} {CN OU : Addr} {M : Kd → Prop} {rm : Nat} {fs : List F2.Fn} {k : Nat} {lens : List Int} : ∀ {d : Nat} {s : Stp}, StpG P w K mg base c CN OU M rm fs k lens d s → KindsM M d s
  | 0, .one L, h => h.1
  | 0, .till _ _ _, h => h.elim
  | _ + 1, .one L, h => h.1
  | d + 1, .till t m ss, h => fun s hs => g_kinds (h.2.2.2.2 s hs)
def spCount (K : PySem.W.Frag) (c : F2.Cs) (q : Scs) (M : Kd → Prop) (d : Nat) : Sp := fun vs H Q _ => ∃ (a : Addr) (ss : List Stp), vs = [.ref a] ∧ StpsAt c q K H d ss a ∧ (∀ s ∈ ss, KindsM M d s) ∧ Q (.int (ss.map (countD d)).sum) H
def prevC (K : PySem.W.Frag) (c : F2.Cs) (q : Scs) (M : Kd → Prop) : Nat → Sp
  | 0 => fun _ _ _ _ => False
  | d + 1 => spCount K c q M d
theorem ok_count_at {c : F2.Cs} {q : Scs} {M : Kd → Prop} (e : Nat) (d : DefIn K mg "count_of" s_count_of ["steps"]) (hisi : mg "isinstance" = none) (G : StepsK K mg q M) (TC : 0 < e → TillC K q) (CO : Ok P w K mg base CX0 (e + 1) "count_of" ["steps"] (prevC K c q M e)) : Ok P w K mg base CX0 (e + 2) "count_of" ["steps"] (spCount K c q M e) := by
  obtain ⟨g, fd, m, F, bd⟩ := d
  refine ⟨g, fd, m, F.kp, bd, F.ok sc_count_of (fun vs H Q E ⟨_, _, e, _⟩ => by rw [e]; rfl) fun cdv A outer s H vs Q E hr h => ?_⟩
  obtain ⟨a, ss, rfl, hA, hM, fin⟩ := h
  obtain ⟨xs, hs, hl, hx⟩ := hA.ex
  have nd := sc_count_of.nd
  have hrC := hr
  refine ⟨_, (pss_cons (ps_set (i := 1) nd rfl (Or.inl rfl) pe_int)
      (pss_cons (ps_for PassesOwn.never rfl (pi_list (pv 0)) (pg_name (i := 2) nd rfl (Or.inl rfl)) (pss_cons (ps_set (i := 1) nd rfl (Or.inl rfl) (pe_op op_add (pv 1) pe_int))
      (pss_one (ps_if (pt_val (pe_callB call_isinst (by rfl) hisi PyProof.Rows.boot_isinstance (pa_cons (pv 2) (pa_cons (pe_gref G.hTi) pa_nil)))) (pss_one (ps_set (i := 1) nd rfl (Or.inl rfl) (pe_op op_add (pv 1) (pe_ok CO hrC (by rfl) pass0 (pa_cons (pe_fld (pv 2) rfl) pa_nil))))) pss_nil))))
      (pss_one (ps_ret (pv 1))))), ?_⟩
  refine ⟨_, rfl, a, rfl, ⟨_, hs⟩, ?_⟩
  refine for_list (K := K) (a := a) (xs := xs.map V.ref) (fun j σ J => ∃ u, σ = [some (.ref a), some (.int ((ss.take j).map (countD e)).sum), u] ∧ H = J) ⟨none, rfl, rfl⟩ (fun j σ J _ ⟨_, _, e⟩ => by rw [← e]; exact hs) ?_ ?_
  · rintro j y σ J hj ⟨u, rfl, rfl⟩
    obtain ⟨z, hz, rfl⟩ : ∃ z, xs[j]? = some z ∧ y = V.ref z := by
      rw [List.getElem?_map] at hj
      cases ez : xs[j]? with
      | none => rw [ez] at hj; cases hj
      | some z => rw [ez] at hj; exact ⟨z, rfl, by injection hj with hj; exact hj.symm⟩
    have jl : j < ss.length := by rw [← hl]; exact (List.getElem?_eq_some_iff.mp hz).1
    have hat := hx j ss[j] z (List.getElem?_eq_getElem jl) hz
    have hm := hM ss[j] (List.getElem_mem jl)
    have es : ((ss.take (j + 1)).map (countD e)).sum = ((ss.take j).map (countD e)).sum + countD e ss[j] := by
      rw [List.take_add_one, List.getElem?_eq_getElem jl, List.map_append, List.sum_append]
      show _ + (countD e ss[j] + 0) = _
      omega
    refine ⟨_, rfl, _, _, rfl, rfl, ?_⟩
    cases hk : ss[j] with
    | one L =>
      rw [hk] at hat hm es
      obtain ⟨dx, v, p, t, ex, _⟩ := (one_at hat).ex
      have g1 := G.c _ (one_m hm)
      refine ⟨_, rfl, _, _, .ref q.till, _, false, rfl, rfl, (fun u r => r), step_ty g1 ex, g1.kT, false, rfl, iteF ?_⟩
      rw [count_one] at es
      exact ⟨_, by rw [es]; rfl, rfl⟩
    | till t m inner =>
      rw [hk] at hat hm es
      cases e with
      | zero => exact hat.elim
      | succ e =>
        have tc := TC (Nat.succ_pos e)
        obtain ⟨dx, sa, ys, ex, hsa, hyl, hys⟩ := hat
        refine ⟨_, rfl, _, _, .ref q.till, _, true, rfl, rfl, (fun u r => r), till_ty tc ex, tc.kT, true, rfl, iteT ?_⟩
        refine ⟨_, rfl, _, rfl, z, _, dx, _, .ref sa, rfl, ex, tc.cl, tc.n2, rfl, sa, inner, rfl, ⟨ys, hsa, hyl, hys⟩, hm, _, _, rfl, rfl, ?_⟩
        refine ⟨some (.ref z), ?_, rfl⟩
        rw [es]
        show [some (V.ref a), some (V.int _), _] = _
        have : countD (e + 1) (.till t m inner) = 1 + (inner.map (countD e)).sum := rfl
        rw [this, Int.add_assoc]
  · rintro σ J ⟨u, rfl, rfl⟩
    rw [List.length_map, hl, List.take_length]
    exact ⟨_, rfl, fin⟩
theorem ok_no {nm : Str} {qn : Str} {ps N : List Str} {st : Stmt} {k : Nat} (d : DefIn K mg nm st ps) (sc : FnScope N ps (defScope st)) : Ok P w K mg base CX0 (k + 1) nm ps (fun _ _ _ _ => False) := by
  obtain ⟨g, fd, m, F, bd⟩ := d
  exact ⟨g, fd, m, F.kp, bd, F.ok (sp := fun _ _ _ _ => False) sc (fun vs H Q E h => False.elim h) fun cdv A outer s H vs Q E hr h => False.elim h⟩
theorem ok_count {c : F2.Cs} {q : Scs} {M : Kd → Prop} (d : DefIn K mg "count_of" s_count_of ["steps"]) (hisi : mg "isinstance" = none) (G : StepsK K mg q M) : ∀ (e : Nat), (0 < e → TillC K q) → Ok P w K mg base CX0 (e + 2) "count_of" ["steps"] (spCount K c q M e)
  | 0, TC => ok_count_at 0 d hisi G TC (ok_no (qn := "") d sc_count_of)
  | e + 1, TC => ok_count_at (e + 1) d hisi G TC (ok_count d hisi G e fun _ => TC (Nat.succ_pos e))
/-- what is told of a play: None, or the refusal's tuple -/
def FinG (B : Hp) (ca : Addr) (r : R) (Q : VK) : Prop := match r with
  | (cs, none) => ∀ H', Hd B [(ca, .lst (cs.map V.int))] H' → Q .non H'
  | (cs, some (n, p, s)) => ∀ H' t, Hd B [(t, .tup [.int n, .int p, .str s]), (ca, .lst (cs.map V.int))] H' → Q (.ref t) H'
theorem finL {B : Hp} {ca : Addr} {num : Int} {r : List Int × Option (Nat × Res)} {Q : VK} (h : FinG B ca (outR num r) Q) : FinL B ca num r Q := by
  obtain ⟨cs, r⟩ := r
  cases r with
  | none => exact h
  | some pe => exact h
structure ProgAt (c : F2.Cs) (K : PySem.W.Frag) (PR : Addr) (B : Hp) (pr : Addr) (lens : List Int) (fs : List F2.Fn) : Prop where
  ex : ∃ dx l f st, B pr = some (.ins PR dx [("lengths", .ref l), ("functions", .ref f), ("steps", st)]) ∧ SqL K B l (lens.map V.int) ∧ F2.FunsAt c K B f fs
def spSteps (P : Program) (w : World) (K : PySem.W.Frag) (mg : Str → Option Value) (base : Heap) (c : F2.Cs) (CN OU : Addr) (q : Scs) (M : Kd → Prop) (PR : Addr) (rm d : Nat) : Sp := fun vs H Q _ => ∃ (pr ca sa : Addr) (B : Hp) (fs : List F2.Fn) (k : Nat) (lens cs : List Int) (ss : List Stp) (num : Int), vs = [.ref pr, .ref ca, .ref sa, .int num] ∧ Hd B [(ca, .lst (cs.map V.int))] H ∧ StpsAt c q K B d ss sa ∧
  ProgAt c K PR B pr lens fs ∧ (∀ s ∈ ss, StpG P w K mg base c CN OU M rm fs k lens d s) ∧ CellsOk lens cs ∧ (∀ v ∈ lens, 0 ≤ v) ∧ FinG B ca (playR fs k lens d ss num cs) Q
def spTill (P : Program) (w : World) (K : PySem.W.Frag) (mg : Str → Option Value) (base : Heap) (c : F2.Cs) (CN OU : Addr) (q : Scs) (M : Kd → Prop) (PR : Addr) (rm d : Nat) : Sp := fun vs H Q _ => ∃ (pr ca x : Addr) (B : Hp) (fs : List F2.Fn) (k : Nat) (lens cs : List Int) (t most : Int) (ss : List Stp) (num : Int), vs = [.ref pr, .ref ca, .ref x, .int num] ∧ Hd B [(ca, .lst (cs.map V.int))] H ∧ StpAt c q K B (d + 1) (.till t most ss) x ∧
  ProgAt c K PR B pr lens fs ∧ StpG P w K mg base c CN OU M rm fs k lens (d + 1) (.till t most ss) ∧ CellsOk lens cs ∧ (∀ v ∈ lens, 0 ≤ v) ∧ FinG B ca (turnsR (playR fs k lens d ss (num + 1)) (rowAny lens t) num most.toNat 0 cs) Q
def prevT (P : Program) (w : World) (K : PySem.W.Frag) (mg : Str → Option Value) (base : Heap) (c : F2.Cs) (CN OU : Addr) (q : Scs) (M : Kd → Prop) (PR : Addr) (rm : Nat) : Nat → Sp
  | 0 => fun _ _ _ _ => False
  | d + 1 => spTill P w K mg base c CN OU q M PR rm d
theorem ok_steps_at {c : F2.Cs} {CN OU PR : Addr} {q : Scs} {M : Kd → Prop} {rm : Nat} (e : Nat) (d : DefIn K mg "steps_played" s_steps_played ["program", "cells", "steps", "first"]) (hisi : mg "isinstance" = none) (G : StepsK K mg q M) (TC : 0 < e → TillC K q)
    (CO : Ok P w K mg base CX0 (e + 2) "count_of" ["steps"] (spCount K c q M e)) (EP : Ok P w K mg base CX0 (rm + 4) "elements_played" ["program", "cells", "step", "number"] (spEls P w K mg base c CN OU q M PR rm)) (TP : Ok P w K mg base CX0 (rm + 2 * e + 4) "till_played" ["program", "cells", "till", "number"] (prevT P w K mg base c CN OU q M PR rm e)) (hrm : 2 ≤ rm) :
    Ok P w K mg base CX0 (rm + 2 * e + 5) "steps_played" ["program", "cells", "steps", "first"] (spSteps P w K mg base c CN OU q M PR rm e) := by
  obtain ⟨g, fd, m, F, bd⟩ := d
  refine ⟨g, fd, m, F.kp, bd, F.ok sc_steps_played (fun vs H Q E ⟨_, _, _, _, _, _, _, _, _, _, e, _⟩ => by rw [e]; rfl) fun cdv A outer s H vs Q E hr h => ?_⟩
  obtain ⟨pr, ca, sa, B, fs, k, lens, cs, ss, num, rfl, h, hA, hP, hG, hC, hnn, fin⟩ := h
  obtain ⟨xs, hs, hl, hx⟩ := hA.ex
  obtain ⟨dxp, l, f, st, epr, hlen, hfun⟩ := hP.ex
  have nd := sc_steps_played.nd
  have hrE := hr
  have hrC : Room (e + 2) _ := hr.mono (by omega)
  have EP := EP.mono (k := rm + 2 * e + 4) (by omega)
  refine ⟨_, (pss_cons (ps_set (i := 4) nd rfl (Or.inl rfl) (pv 3))
      (pss_cons (ps_for PassesOwn.never rfl (pi_list (pv 2)) (pg_name (i := 5) nd rfl (Or.inl rfl)) (pss_cons (ps_mid (ps_if (pt_val (pe_callB call_isinst (by rfl) hisi PyProof.Rows.boot_isinstance (pa_cons (pv 5) (pa_cons (pe_gref G.hTi) pa_nil)))) (pss_one (ps_set (i := 6) nd rfl (Or.inl rfl) (pe_ok TP hrE (by rfl) pass0 (pa_cons (pv 0) (pa_cons (pv 1) (pa_cons (pv 5) (pa_cons (pv 4) pa_nil))))))) (pss_one (ps_set (i := 6) nd rfl (Or.inl rfl) (pe_ok EP hrE (by rfl) pass0 (pa_cons (pv 0) (pa_cons (pv 1) (pa_cons (pv 5) (pa_cons (pv 4) pa_nil)))))))))
      (pss_cons (ps_if (pt_cmpR op_notN (pv 6) pe_non (nomark _)) (pss_one (ps_ret (pv 6))) pss_nil)
      (pss_one (ps_set (i := 4) nd rfl (Or.inl rfl) (pe_op op_add (pv 4) (pe_ok CO hrC (by rfl) pass0 (pa_cons (pe_lst (pa_cons (pv 5) pa_nil)) pa_nil))))))))
      (pss_one (ps_ret pe_non)))), ?_⟩
  refine ⟨_, rfl, _, rfl, sa, rfl, ⟨_, h.sql hs⟩, ?_⟩
  refine for_list (K := K) (a := sa) (xs := xs.map V.ref) (fun j σ J => ∃ (n : Int) (u5 u6 : Option V) (cs' : List Int), σ = [some (.ref pr), some (.ref ca), some (.ref sa), some (.int num), some (.int n), u5, u6] ∧ Hd B [(ca, .lst (cs'.map V.int))] J ∧ CellsOk lens cs' ∧ FinG B ca (playR fs k lens e (ss.drop j) n cs') Q) ⟨num, none, none, cs, rfl, h, hC, fin⟩ (fun j σ J _ ⟨_, _, _, _, _, h, _⟩ => h.sql hs) ?_ ?_
  · clear h hC fin cs
    rintro j y σ J hj ⟨n, u5, u6, cs, rfl, h, hC, fin⟩
    obtain ⟨z, hz, rfl⟩ : ∃ z, xs[j]? = some z ∧ y = V.ref z := by
      rw [List.getElem?_map] at hj
      cases ez : xs[j]? with
      | none => rw [ez] at hj; cases hj
      | some z => rw [ez] at hj; exact ⟨z, rfl, by injection hj with hj; exact hj.symm⟩
    have jl : j < ss.length := by rw [← hl]; exact (List.getElem?_eq_some_iff.mp hz).1
    have hat := hx j ss[j] z (List.getElem?_eq_getElem jl) hz
    have hg := hG ss[j] (List.getElem_mem jl)
    rw [List.drop_eq_getElem_cons jl, playR_eq] at fin
    have hK := g_kinds hg
    refine ⟨fun σ' H' => ∃ (v : V), σ' = [some (.ref pr), some (.ref ca), some (.ref sa), some (.int num), some (.int n), some (.ref z), some v] ∧ (match stepR fs k lens (prevR fs k lens e) ss[j] n cs with
      | (cs', none) => v = .non ∧ Hd B [(ca, .lst (cs'.map V.int))] H'
      | (cs', some (a, b, s)) => ∃ t, v = .ref t ∧ Hd B [(t, .tup [.int a, .int b, .str s]), (ca, .lst (cs'.map V.int))] H'), ?_, ?_⟩
    · cases hk : ss[j] with
      | one L =>
        rw [hk] at hat hg
        obtain ⟨dx, v, p, t, ex, _⟩ := (one_at hat).ex
        obtain ⟨hM, hW, hO⟩ := one_g hg
        have g1 := G.c _ hM
        refine ⟨_, rfl, _, _, .ref q.till, _, false, rfl, rfl, (fun u r => r), step_ty g1 (h.sm _ _ ex), g1.kT, false, rfl, iteF ?_⟩
        refine ⟨_, rfl, _, rfl, _, rfl, _, rfl, pr, dxp, l, f, ca, z, st, B, fs, k, lens, cs, L, n, rfl, hM, h, epr, hlen, hfun, one_at hat, hW, hO, hC, finL ?_⟩
        show FinG B ca (oneR fs k lens L n cs) _
        have e0 : stepR fs k lens (prevR fs k lens e) (.one L) n cs = oneR fs k lens L n cs := rfl
        cases er : oneR fs k lens L n cs with
        | mk cs2 r =>
          cases r with
          | none => exact fun H' hh => ⟨.non, rfl, by rw [e0, er]; exact ⟨rfl, hh⟩⟩
          | some r => exact fun H' tt hh => ⟨.ref tt, rfl, by rw [e0, er]; exact ⟨tt, rfl, hh⟩⟩
      | till t m inner =>
        rw [hk] at hat hg
        cases e with
        | zero => exact hat.elim
        | succ e =>
          have tc := TC (Nat.succ_pos e)
          obtain ⟨dx, sa', ys, ex, _⟩ := id hat
          refine ⟨_, rfl, _, _, .ref q.till, _, true, rfl, rfl, (fun u r => r), till_ty tc (h.sm _ _ ex), tc.kT, true, rfl, iteT ?_⟩
          refine ⟨_, rfl, _, rfl, _, rfl, _, rfl, pr, ca, z, B, fs, k, lens, cs, t, m, inner, n, rfl, h, hat, hP, hg, hC, hnn, ?_⟩
          have e0 : stepR fs k lens (prevR fs k lens (e + 1)) (.till t m inner) n cs = turnsR (playR fs k lens e inner (n + 1)) (rowAny lens t) n m.toNat 0 cs := rfl
          cases er : turnsR (playR fs k lens e inner (n + 1)) (rowAny lens t) n m.toNat 0 cs with
          | mk cs2 r =>
            cases r with
            | none => exact fun H' hh => ⟨.non, rfl, by rw [e0, er]; exact ⟨rfl, hh⟩⟩
            | some r => exact fun H' tt hh => ⟨.ref tt, rfl, by rw [e0, er]; exact ⟨tt, rfl, hh⟩⟩
    rintro σ' H' ⟨v, rfl, hv⟩
    unfold listR at fin
    have hC' : CellsOk lens (stepR fs k lens (prevR fs k lens e) ss[j] n cs).1 := by
      have q1 := playR_ok (P := P) (w := w) (K := K) (mg := mg) (base := base) (c := c) (CN := CN) (OU := OU) (M := M) (rm := rm) e [ss[j]] (fun s hs => by rw [List.mem_singleton.mp hs]; exact hg) n cs hC
      rw [playR_eq] at q1
      unfold listR at q1
      revert q1
      cases stepR fs k lens (prevR fs k lens e) ss[j] n cs with
      | mk cs2 r => cases r with
        | none => exact fun q => q
        | some r => exact fun q => q
    generalize stepR fs k lens (prevR fs k lens e) ss[j] n cs = rr at hv fin hC'
    cases rr with
    | mk cs2 r =>
      cases r with
      | none =>
        obtain ⟨rfl, hh⟩ := hv
        refine ⟨_, rfl, rfl, _, rfl, iteF ?_⟩
        refine ⟨_, rfl, _, rfl, (by show 1 ≤ sizeLine; decide), fun ta nta => ?_⟩
        have hh2 := hh.new (o := .lst [.ref z]) nta
        refine ⟨ta, [ss[j]], rfl, ⟨[z], hh2.lst 0 rfl, rfl, fun i s y a b => ?_⟩, (fun s hs => by rw [List.mem_singleton.mp hs]; exact hK), _, _, rfl, rfl, ?_⟩
        · cases i with
          | succ i => cases a
          | zero =>
            cases (show some ss[j] = some s from a)
            cases (show some z = some y from b)
            exact hat.same hh2.sm
        refine ⟨n + countD e ss[j], some (.ref z), some .non, cs2, ?_, hh2.tl, hC', ?_⟩
        · show [_, _, _, _, some (V.int (n + ([ss[j]].map (countD e)).sum)), _, _] = _
          rw [List.map_singleton, List.sum_singleton]
        · rw [playR_eq]; exact fin
      | some r =>
        obtain ⟨a, b, s⟩ := r
        obtain ⟨t, rfl, hh⟩ := hv
        refine ⟨_, rfl, rfl, _, rfl, iteT ?_⟩
        exact ⟨_, rfl, fin _ _ hh⟩
  · rintro σ J ⟨n, u5, u6, cs', rfl, h, hC, fin⟩
    rw [List.length_map, hl, List.drop_length, playR_eq] at fin
    exact fin J h
def FinP (B : Hp) (r : R) (Q : VK) : Prop := match r with
  | (cs, none) => ∀ H' t ca, Hd B [(t, .tup [.ref ca, .non]), (ca, .lst (cs.map V.int))] H' → Q (.ref t) H'
  | (cs, some (n, p, s)) => ∀ H' t u ca, Hd B [(t, .tup [.ref ca, .ref u]), (u, .tup [.int n, .int p, .str s]), (ca, .lst (cs.map V.int))] H' → Q (.ref t) H'
def spPlayed (P : Program) (w : World) (K : PySem.W.Frag) (mg : Str → Option Value) (base : Heap) (c : F2.Cs) (CN OU : Addr) (q : Scs) (M : Kd → Prop) (PR : Addr) (rm d : Nat) : Sp := fun vs H Q _ => ∃ (pr dx l f ca sa : Addr) (fs : List F2.Fn) (k : Nat) (lens cs : List Int) (ss : List Stp), vs = [.ref pr, .ref ca] ∧ SqL K H ca (cs.map V.int) ∧ StpsAt c q K H d ss sa ∧
  H pr = some (.ins PR dx [("lengths", .ref l), ("functions", .ref f), ("steps", .ref sa)]) ∧ SqL K H l (lens.map V.int) ∧ F2.FunsAt c K H f fs ∧ (∀ s ∈ ss, StpG P w K mg base c CN OU M rm fs k lens d s) ∧ CellsOk lens cs ∧ (∀ v ∈ lens, 0 ≤ v) ∧ FinP H (playR fs k lens d ss 0 cs) Q
theorem ok_played {c : F2.Cs} {CN OU PR : Addr} {q : Scs} {M : Kd → Prop} {rm e : Nat} (d : DefIn K mg "played" s_played ["program", "cells"]) (hlist : mg "list" = none) (pc : ProgC K PR) (SP : Ok P w K mg base CX0 (rm + 2 * e + 5) "steps_played" ["program", "cells", "steps", "first"] (spSteps P w K mg base c CN OU q M PR rm e)) :
    Ok P w K mg base CX0 (rm + 2 * e + 6) "played" ["program", "cells"] (spPlayed P w K mg base c CN OU q M PR rm e) := by
  obtain ⟨g, fd, m, F, bd⟩ := d
  refine ⟨g, fd, m, F.kp, bd, F.ok sc_played (fun vs H Q E ⟨_, _, _, _, _, _, _, _, _, _, _, e, _⟩ => by rw [e]; rfl) fun cdv A outer s H vs Q E hr h => ?_⟩
  obtain ⟨pr, dx, l, f, ca, sa, fs, k, lens, cs, ss, rfl, hca, hsa, hpr, hl, hf, hG, hC, hnn, fin⟩ := h
  have nd := sc_played.nd
  have hrE : Room (rm + 2 * e + 5) _ := hr.mono (by omega)
  refine ⟨_, (pss_cons (ps_set (i := 2) nd rfl (Or.inl rfl) (pe_callTy call_list_of (by rfl) hlist PyProof.Rows.boot_list (pa_cons (pv 1) pa_nil)))
      (pss_cons (ps_set (i := 3) nd rfl (Or.inl rfl) (pe_ok SP hrE (by rfl) pass0 (pa_cons (pv 0) (pa_cons (pv 2) (pa_cons (pe_fld (pv 0) rfl) (pa_cons pe_int pa_nil))))))
      (pss_one (ps_ret (pe_tup (pa_cons (pv 2) (pa_cons (pv 3) pa_nil))))))), ?_⟩
  refine ⟨_, rfl, ca, _, rfl, .inl hca, fun be nbe => ?_⟩
  have h : Hd H [(be, .lst (cs.map V.int))] _ := Hd.base.new nbe
  generalize upd H be (.lst (cs.map V.int)) = H1 at h ⊢
  refine ⟨_, rfl, _, rfl, _, rfl, pr, PR, dx, _, .ref sa, rfl, h.sm _ _ hpr, pc.c, pc.n2, rfl, pr, be, sa, H, fs, k, lens, cs, ss, 0, rfl, h, hsa, ⟨dx, l, f, _, hpr, hl, hf⟩, hG, hC, hnn, ?_⟩
  revert fin
  cases playR fs k lens e ss 0 cs with
  | mk cs2 r =>
    intro fin
    cases r with
    | none =>
      intro H' hh
      refine ⟨_, rfl, _, rfl, (by show 2 ≤ sizeLine; decide), fun t nt => ?_⟩
      exact fin _ t be (hh.new nt)
    | some pe =>
      obtain ⟨n, p, s⟩ := pe
      intro H' tt hh
      refine ⟨_, rfl, _, rfl, (by show 2 ≤ sizeLine; decide), fun t nt => ?_⟩
      exact fin _ t tt be (hh.new nt)
end
end K16

namespace L2
open PySem PySem.Spec PyProof.Rows
/-! ### a def (or method) with defaults -/
structure FunD (K : PySem.W.Frag) (x qual : Str) (st : Stmt) (f : Addr) (fd : FuncData) (ds : Array Value) : Prop where
  ex : ∃ (oc : Value) (od : Option Addr) (kV doc pm : Value) (an : Option Addr) (cdv ct : Value) (osl : Array (Option Value)) (T : Addr) (o : Obj) (n : Nat),
    fd = PySem.W.fnOf x qual (defArgs st) (defBody st) (defScope st) (.ref T) kV doc pm an cdv ct ∧ K.lookup f = some ⟨oc, od, .func fd, osl⟩ ∧ PySem.W.codeIn K cdv qual = true ∧ K.lookup T = some o ∧ o.data = .seq ds n
  kp : PySem.W.keepIn K (.ref f) = true
section
variable {P : Program} {w : World} {K : PySem.W.Frag} {mg : Str → Option Value} {base : Heap}
theorem FunD.okE {x qual : Str} {st : Stmt} {f : Addr} {fd : FuncData} {ds : Array Value} {N ps : List Str} {k : Nat} {sp : Sp} (F : FunD K x qual st f fd ds) (S : FnScope N ps (defScope st)) (len : ∀ vs H Q E, sp vs H Q E → vs.length = ps.length)
    (hbody : ∀ (cdv : Value) (A : Around) (outer : List Env) (s : Shared) (H : Hp) (vs : List V) (Q : VK) (E : XK), Room k (A.deeper (envOfC qual (defScope st) s.heap.objs.size f cdv)) → sp vs H Q E →
      ∃ t, PSs (cxOf (CXe P w base) P w K mg base N qual (defScope st) f cdv A outer s H E) (defBody st) t ∧ t { nx := fun _ H' => Q .non H', rt := Q } (start N vs) H) : FnOk P w K mg base (CXe P w base) (k + 1) f fd ps sp := by
  obtain ⟨oc, od, kV, doc, pm, an, cdv, ct, osl, T, o, n, rfl, lk, hcd, _, _⟩ := F.ex
  exact fn_of lk hcd S len fun A outer s H vs Q E hr hsp => hbody cdv A outer s H vs Q E hr hsp
/-- how its arguments bind: us those that are written, ds2 the defaults that fill up -/
theorem FunD.binds {x qual : Str} {st : Stmt} {f : Addr} {fd : FuncData} {ds : Array Value} {ps : List Str} {ds2 : List Value} (F : FunD K x qual st f fd ds)
    (h : ∀ (T : Addr) (kV doc pm : Value) (an : Option Addr) (cdv ct : Value) (us : List Value), (us ++ ds2).length = ps.length → ∃ k : Option (Array Value) → Sem (List (Str × Value)), bindArgs (PySem.W.fnOf x qual (defArgs st) (defBody st) (defScope st) (.ref T) kV doc pm an cdv ct) ⟨us, []⟩ = seqItems? (.ref T) >>= k ∧ k (some ds) = pure (ps.zip (us ++ ds2))) : Binds K fd ps ds2 := by
  obtain ⟨oc, od, kV, doc, pm, an, cdv, ct, osl, T, o, n, rfl, lk, hcd, lT, eT⟩ := F.ex
  intro s us KX hl
  obtain ⟨k, h1, h2⟩ := h T kV doc pm an cdv ct us hl
  exact BindsTo.of_defaults rfl (KX _ _ lT) eT h1 h2
theorem funD_mk {x qual : Str} {st : Stmt} {f T : Addr} {oc ocT : Value} {od an odT : Option Addr} {osl oslT : Array (Option Value)} {kV doc pm cdv ct : Value} {ds : Array Value} {n : Nat} (l : K.lookup f = some ⟨oc, od, .func (PySem.W.fnOf x qual (defArgs st) (defBody st) (defScope st) (.ref T) kV doc pm an cdv ct), osl⟩)
    (c : PySem.W.codeIn K cdv qual = true) (k : PySem.W.keepIn K (.ref f) = true) (lT : K.lookup T = some ⟨ocT, odT, .seq ds n, oslT⟩) : FunD K x qual st f (PySem.W.fnOf x qual (defArgs st) (defBody st) (defScope st) (.ref T) kV doc pm an cdv ct) ds := ⟨⟨oc, od, kV, doc, pm, an, cdv, ct, osl, T, _, n, rfl, l, c, lT, rfl⟩, k⟩
/-- an __init__ whose last parameter has the default None -/
def InitN (K : PySem.W.Frag) (C : Addr) (qual : Str) (st : Stmt) (ps : List Str) : Prop := ∃ (f : Addr) (fd : FuncData), Mk K C f ∧ FunD K "__init__" qual st f fd #[.none] ∧ Binds K fd ps [] ∧ Binds K fd ps [.none]
def OkN (P : Program) (w : World) (K : PySem.W.Frag) (mg : Str → Option Value) (base : Heap) (CX : CXT) (k : Nat) (C : Addr) (ps : List Str) (sp : Sp) : Prop :=
  ∃ (f : Addr) (fd : FuncData), Mk K C f ∧ Binds K fd ps [] ∧ Binds K fd ps [.none] ∧ FnOk P w K mg base CX k f fd ps sp
end
section
variable {X : Cx} {CX : CXT} {k : Nat} {C : Addr} {ps : List Str} {sp : Sp} {E : XK} {x m : Str} {p pos apos : Pos} {e o : Expr} {es : List Expr} {ta : TE} {t : TA}
theorem OkN.all {P : Program} {w : World} {K : PySem.W.Frag} {mg : Str → Option Value} {base : Heap} (h : OkN P w K mg base CX k C ps sp) : OkI P w K mg base CX k C ps sp := by
  obtain ⟨f, fd, a, b, _, d⟩ := h
  exact ⟨f, fd, a, b, d⟩
/-- C(..) with the last one left out -/
theorem pe_okN (h : OkN X.prog X.w X.K X.mg X.base CX k C ps sp) (hm : X.mg x = some (.ref C)) (hr : Room (k + 1) X.A) (hg : Gl X x) (hx : Passes CX X E) (ha : PA X (e :: es) t) (hdb : (x == ("__debug__" : Str)) = false := by decide)
    (he : starEach (e :: es) X.env = (false, eval e X.env) :: starEach es X.env := by rfl) (hpl : (backTo pos (starEach es X.env)).any (·.1) = false := by rfl) : PE X (.Call (.Name x p) (e :: es) [] pos) (tMake C sp [.non] E t) := by
  obtain ⟨f, fd, a, _, b, d⟩ := h
  exact pe_make a d hr hg hm b (.cons rfl .nil) hx ha hdb he hpl
end
end L2

namespace K16
open PySem L2 FM ST
section
variable {P : Program} {w : World} {K : PySem.W.Frag} {mg : Str → Option Value} {base : Heap}
theorem intEq {a b : Int} : decide (V.int a = V.int b) = decide (a = b) := by
  by_cases z : a = b
  · subst z; simp
  · rw [decide_eq_false z, decide_eq_false (fun q => z (by injection q))]
/-- Call(at, handed): its own list -/
def spI_Call (K : PySem.W.Frag) (C : Addr) : Sp := fun vs H Q _ => ∃ (x dx h : Addr) (u0 : V) (xs : List V), vs = [.ref x, u0, .ref h] ∧ H x = some (.ins C dx []) ∧ SqL K H h xs ∧ ∀ H' l, H l = none → (∀ b o, b ≠ x → H b = some o → H' b = some o) → H' l = some (.lst xs) → H' x = some (.ins C dx [("at", u0), ("handed", .ref l)]) → Q .non H'
theorem okI_Call {C : Addr} (d : InitIn K C "Call.__init__" s_Call_init ["self", "at", "handed"]) (hlist : mg "list" = none) (cl : Cls K C) (n0 : NoAttr K C "at") (n1 : NoAttr K C "handed") : OkI P w K mg base (CXe P w base) 1 C ["self", "at", "handed"] (spI_Call K C) := by
  obtain ⟨f, fd, m, F, bd⟩ := d
  refine ⟨f, fd, m, bd, F.okE sc_Call_init (fun vs H Q E ⟨_, _, _, _, _, e, _⟩ => by rw [e]; rfl) fun cdv A outer s H vs Q E hr h => ?_⟩
  obtain ⟨x, dx, h, u0, xs, rfl, hx, hh, k⟩ := h
  refine ⟨_, (pss_cons (ps_fld (pv 0) (pv 1) rfl) (pss_one (ps_fld (pv 0) (pe_callTy call_list_of (by rfl) hlist PyProof.Rows.boot_list (pa_cons (pv 2) pa_nil)) rfl))), ?_⟩
  refine ⟨_, rfl, _, rfl, x, C, dx, [], rfl, hx, cl, n0, (by show 0 < 1000; decide), ?_⟩
  have h2 : SqL K (upd H x (.ins C dx [("at", u0)])) h xs := by
    rcases hh with (z | ⟨o, z⟩) | z
    · exact .inl (.inl (by rw [upd_ne (fun e => by subst e; rw [hx] at z; cases z)]; exact z))
    · exact .inl (.inr ⟨o, by rw [upd_ne (fun e => by subst e; rw [hx] at z; cases z)]; exact z⟩)
    · exact .inr z
  refine ⟨_, rfl, h, _, rfl, .inl h2, fun l nl => ?_⟩
  have nx : l ≠ x := fun e => by subst e; rw [upd_same] at nl; cases nl
  refine ⟨_, rfl, x, C, dx, [("at", u0)], rfl, (by rw [upd_ne (Ne.symm nx)]; exact upd_same), cl, n1, (by show 1 < 1000; decide), ?_⟩
  refine k _ l (by rw [upd_ne nx] at nl; exact nl) (fun b o nb z => ?_) (by rw [upd_ne nx]; exact upd_same) upd_same
  rw [upd_ne nb]
  have nl' : b ≠ l := fun e => by subst e; rw [upd_ne nb] at nl; rw [nl] at z; cases z
  rw [upd_ne nl', upd_ne nb]
  exact z
/-! ### a form asked -/
def resV : Res → List V
  | .ok n => [.str "", .int n]
  | .nought => [.str "nought", .int 0]
  | .outside => [.str "outside", .int 0]
structure ExcX (K : PySem.W.Frag) (mg : Str → Option Value) (CN OU : Addr) : Prop extends ExcK K mg CN OU where
  no : PySem.W.kitOne K (.ref CN) (.ref OU) = some false
  xc : ExcCls K CN
def spAsked (P : Program) (w : World) (K : PySem.W.Frag) (mg : Str → Option Value) (base : Heap) (c : F2.Cs) (CN OU : Addr) (rm : Nat) : Sp := fun vs H Q _ => ∃ (x s : Addr) (F : F2.Fm) (S : SpotD) (fs : List F2.Fn) (k : Nat), vs = [.ref x, .ref s] ∧ F2.FormAt c H F x ∧ F2.Worth P w K mg base c CN OU rm fs k F ∧ F2.SpotAt c K H s S fs ∧ SpotOk S ∧ F2.WF fs k S F ∧
  ∀ (H' : Hp) (t : Addr), Hd H [(t, .tup (resV (F2.worth fs k S F)))] H' → Q (.ref t) H'
theorem ok_asked {c : F2.Cs} {CN OU : Addr} {rm : Nat} (d : DefIn K mg "_law_asked" s_l_asked ["_law_form", "_law_spot"]) (X : ExcX K mg CN OU) (N : Ints K mg) : Ok P w K mg base (CXe P w base) (rm + 1) "_law_asked" ["_law_form", "_law_spot"] (spAsked P w K mg base c CN OU rm) := by
  obtain ⟨g, fd, m, F, b⟩ := d
  refine ⟨g, fd, m, F.kp, b, F.okE sc_l_asked (fun vs H Q E ⟨_, _, _, _, _, _, e, _⟩ => by rw [e]; rfl) fun cdv A outer s H vs Q E hr h => ?_⟩
  obtain ⟨x, sp, F, S, fs, k, rfl, hx, hW, hs, ho, hw, q⟩ := h
  have nd := sc_l_asked.nd
  have hN := X.hN
  have hO := X.hO
  refine ⟨_, (pss_cons (ps_set (i := 2) nd rfl (Or.inl rfl) pe_int)
      (pss_cons (ps_set (i := 3) nd rfl (Or.inl rfl) pe_str)
      (pss_cons (ps_try (t := fun R => tAsg (tMethX (DispX P w K mg base (CXe P w base) rm "worth") "worth" (XE R) (tVar 0) (tCons (tVar 1) tNil)) (gName 2)) rfl rfl (by intro pins σ₀ R ok; exact ps1_set (i := 2) nd rfl (Or.inl rfl) (pe1_methX (m := "worth") (E := XE R) (CX := CXe P w base) hr (pass_tr (pins := pins) (σ₀ := σ₀) ok) (pv 0) (pa_cons (pv 1) pa_nil))) (ph_as (i := 4) rfl rfl hN nd rfl rfl rfl (fun e => (pss_one (ps_set (i := 3) nd rfl (Or.inl rfl) (pe_ifExp (pt_val (pe_callB call_isinst (by rfl) N.isi PyProof.Rows.boot_isinstance (pa_cons (pv 4) (pa_cons (pe_gref hO) pa_nil)))) pe_str pe_str)))) (ph_no rfl rfl hO (fun e => (pss_one (ps_set (i := 3) nd rfl (Or.inl rfl) pe_str))) ph_nil)))
      (pss_one (ps_ret (pe_tup (pa_cons (pv 3) (pa_cons (pv 2) pa_nil)))))))), ?_⟩
  obtain ⟨C1, dx1, fs1, sp1, e1, d1, l1, u1⟩ := hW x H hx
  have fin : ∀ (H1 : Hp) (kd : Str) (n : Int), Same H H1 → resV (F2.worth fs k S F) = [.str kd, .int n] → tRet (tTup (tCons (tVar 3) (tCons (tVar 2) tNil))) { nx := fun _ H' => Q .non H', rt := Q } [some (.ref x), some (.ref sp), some (.int n), some (.str kd), none] H1 := fun H1 kd n s1 e =>
    ⟨_, rfl, _, rfl, (by show 2 ≤ sizeLine; decide), fun t nt => q _ t (by rw [e]; exact ((Hd.base (B := H)).same s1).new nt)⟩
  refine ⟨fun C H' => Same H H' ∧ ((C = CN ∧ F2.worth fs k S F = .nought) ∨ (C = OU ∧ F2.worth fs k S F = .outside)), ?_, ?_⟩
  · refine ⟨_, rfl, x, C1, dx1, fs1, sp1, rfl, e1, d1, l1, _, rfl, u1 sp S _ _ H (Same.refl _) hs ho hw fun H1 s1 => ?_⟩
    cases e : F2.worth fs k S F with
    | ok n => exact fin H1 "" n s1 (by rw [e]; rfl)
    | nought => exact ⟨CN, rfl, s1, .inl ⟨rfl, rfl⟩⟩
    | outside => exact ⟨OU, rfl, s1, .inr ⟨rfl, rfl⟩⟩
  · rintro e C H1 fe ⟨s1, ⟨rfl, ee⟩ | ⟨rfl, ee⟩⟩
    · refine ⟨true, X.nn, iteT ?_⟩
      refine ⟨_, rfl, _, _, .ref OU, .ref C, false, rfl, rfl, (fun u r => r), .inr ⟨e, C, rfl, upd_same, rfl, X.xc⟩, X.no, false, rfl, iteF ?_⟩
      exact fin _ "nought" 0 (same_upd s1 (s1.free fe)) (by rw [ee]; rfl)
    · refine ⟨false, X.on, iteF ⟨true, X.oo, iteT ?_⟩⟩
      exact fin _ "outside" 0 (same_upd s1 (s1.free fe)) (by rw [ee]; rfl)
end
end K16

namespace K16
open PySem L2 FM ST
/-! ### the law's two functions -/
def fnOne : F2.Fm := .cho (.loc 0) (.pair "/" (.num 60) (.loc 0)) .here
def fnTwo : F2.Fm := .pair "-" (.pair "*" (.loc 0) (.num 3)) (.loc 1)
def FS : List F2.Fn := [(1, fnOne), (2, fnTwo)]
theorem kin_small {n : Int} (h : -1000 ≤ n) (h' : n ≤ 1000) : Kin n := by
  constructor <;> omega
theorem fs_bodies : F2.Bodies FS := by
  intro a S l h0 h1 h2
  have h1 : a.toNat < 2 := h1
  have h3 : a.toNat = 0 ∨ a.toNat = 1 := by omega
  unfold F2.bodyOf F2.handsOf at *
  rcases h3 with e | e
  · rw [e] at h2 ⊢
    have h2 : l.length = 1 := h2
    exact ⟨⟨by decide, by show 0 < l.length; omega⟩, ⟨by simp [signs], kin_small (by decide) (by decide), by decide, by show 0 < l.length; omega⟩, trivial⟩
  · rw [e] at h2 ⊢
    have h2 : l.length = 2 := h2
    exact ⟨by simp [signs], ⟨by simp [signs], ⟨by decide, by show 0 < l.length; omega⟩, kin_small (by decide) (by decide)⟩, by decide, by show 1 < l.length; omega⟩
section
variable {P : Program} {w : World} {K : PySem.W.Frag} {mg : Str → Option Value} {base : Heap}
structure Works2 (P : Program) (w : World) (K : PySem.W.Frag) (mg : Str → Option Value) (base : Heap) (c : F2.Cs) (CN OU : Addr) (fs : List F2.Fn) : Prop where
  num : ∀ k n, F2.Worth P w K mg base c CN OU 1 fs k (.num n)
  here : ∀ k, F2.Worth P w K mg base c CN OU 1 fs k .here
  cell : ∀ k r, F2.Worth P w K mg base c CN OU 3 fs k (.cell r)
  shi : ∀ k r b o, F2.Worth P w K mg base c CN OU 3 fs k (.shi r b o)
  loc : ∀ k a, F2.Worth P w K mg base c CN OU 1 fs k (.loc a)
  at' : ∀ k r p rm, 2 ≤ rm → F2.Worth P w K mg base c CN OU rm fs k p → F2.Worth P w K mg base c CN OU (rm + 1) fs k (.at' r p)
  pair : ∀ k sg l r rm, 3 ≤ rm → F2.Worth P w K mg base c CN OU rm fs k l → F2.Worth P w K mg base c CN OU rm fs k r → F2.Worth P w K mg base c CN OU (rm + 1) fs k (.pair sg l r)
  cho : ∀ k t l r rm, F2.Worth P w K mg base c CN OU rm fs k t → F2.Worth P w K mg base c CN OU rm fs k l → F2.Worth P w K mg base c CN OU rm fs k r → F2.Worth P w K mg base c CN OU (rm + 1) fs k (.cho t l r)
  call : ∀ k a gs rm, 2 ≤ rm → gs.All (F2.Worth P w K mg base c CN OU rm fs k) → (∀ a, 0 ≤ a → a.toNat < k → a.toNat < fs.length → F2.Worth P w K mg base c CN OU rm fs (k - 1) (F2.bodyOf fs a)) → F2.Worth P w K mg base c CN OU (rm + 1) fs k (.call a gs)
theorem bodies_work {c : F2.Cs} {CN OU : Addr} (W : Works2 P w K mg base c CN OU FS) (k : Nat) : ∀ a : Int, 0 ≤ a → a.toNat < k → a.toNat < FS.length → F2.Worth P w K mg base c CN OU 6 FS (k - 1) (F2.bodyOf FS a) := by
  intro a h0 _ h1
  have h1 : a.toNat < 2 := h1
  have h3 : a.toNat = 0 ∨ a.toNat = 1 := by omega
  unfold F2.bodyOf
  rcases h3 with e | e
  · rw [e]
    exact W.cho _ _ _ _ 5 ((W.loc _ _).mono (by decide)) (W.pair _ _ _ _ 4 (by decide) ((W.num _ _).mono (by decide)) ((W.loc _ _).mono (by decide))) ((W.here _).mono (by decide))
  · rw [e]
    exact W.pair _ _ _ _ 5 (by decide) (W.pair _ _ _ _ 4 (by decide) ((W.loc _ _).mono (by decide)) ((W.num _ _).mono (by decide))) ((W.loc _ _).mono (by decide))
/-- a form that may stand in a Let of a row of n cells -/
structure FormG (P : Program) (w : World) (K : PySem.W.Frag) (mg : Str → Option Value) (base : Heap) (c : F2.Cs) (CN OU : Addr) (rm : Nat) (lens : List Int) (n : Int) (F : F2.Fm) : Prop where
  wo : F2.Worth P w K mg base c CN OU rm FS 2 F
  wf : ∀ (cs : List Int) (p : Nat), (p : Int) < n → (cs.length : Int) = lens.sum → (∀ v ∈ cs, Kin v) → F2.WF FS 2 ⟨lens, cs, p, []⟩ F
structure RowsOk (rows far lens : List Int) (n : Int) : Prop where
  r6 : rows.length ≤ 6
  f6 : far.length ≤ 6
  l6 : lens.length ≤ 6
  ro : ∀ r ∈ rows, 0 ≤ r ∧ r.toNat < lens.length ∧ (lens.getD r.toNat 0 = n ∨ lens.getD r.toNat 0 = 1)
  fa : ∀ r ∈ far, 0 ≤ r ∧ r.toNat < lens.length
  le : ∀ v ∈ lens, 1 ≤ v ∧ v ≤ 400
def spLeafBy (P : Program) (w : World) (K : PySem.W.Frag) (mg : Str → Option Value) (base : Heap) (c : F2.Cs) (CN OU : Addr) : Sp := fun vs H Q _ => ∃ (ra fa la : Addr) (cc : Int) (rows far lens : List Int) (n : Int), vs = [.int cc, .ref ra, .ref fa, .ref la] ∧ SqL K H ra (rows.map V.int) ∧ SqL K H fa (far.map V.int) ∧ SqL K H la (lens.map V.int) ∧ RowsOk rows far lens n ∧
  ∀ (H' : Hp) (x : Addr) (F : F2.Fm), Same H H' → F2.FormAt c H' F x → FormG P w K mg base c CN OU 6 lens n F → Q (.ref x) H'
theorem ok_leafBy {c : F2.Cs} {CN OU : Addr} (d : DefIn K mg "_law_leaf_by" s_l_leaf_by ["_law_cell", "_law_rows", "_law_far", "_law_lengths"]) (hlen : mg "len" = none) (W : Works2 P w K mg base c CN OU FS) (MH : MkN K c.here) (hCe : mg "Here" = some (.ref c.here)) (hCn : mg "Number" = some (.ref c.num)) (hCc : mg "Cell" = some (.ref c.cell)) (hCh : mg "Shifted" = some (.ref c.shi)) (hCa : mg "At" = some (.ref c.at')) (hCp : mg "Pair" = some (.ref c.pair))
    (IN : OkI P w K mg base (CXe P w base) 1 c.num ["self", "number"] (spI_Number c.num)) (IC : OkI P w K mg base (CXe P w base) 1 c.cell ["self", "row"] (spI_Cell c.cell)) (IH : OkI P w K mg base (CXe P w base) 1 c.shi ["self", "row", "by", "other"] (spI_Shifted c.shi)) (IA : OkI P w K mg base (CXe P w base) 1 c.at' ["self", "row", "place"] (spI_At c.at')) (IP : OkI P w K mg base (CXe P w base) 1 c.pair ["self", "sign", "left", "right"] (spI_Pair c.pair))
    (KB : Ok P w K mg base (CXe P w base) 1 "_law_kept_by" ["_law_cell"] spKB) : Ok P w K mg base (CXe P w base) 3 "_law_leaf_by" ["_law_cell", "_law_rows", "_law_far", "_law_lengths"] (spLeafBy P w K mg base c CN OU) := by
  obtain ⟨g, fd, m, F, b⟩ := d
  refine ⟨g, fd, m, F.kp, b, F.okE sc_l_leaf_by (fun vs H Q E ⟨_, _, _, _, _, _, _, _, e, _⟩ => by rw [e]; rfl) fun cdv A outer s H vs Q E hr h => ?_⟩
  obtain ⟨ra, fa, la, cc, rows, far, lens, n, rfl, hra, hfa, hla, ok, q⟩ := h
  have nd := sc_l_leaf_by.nd
  have hr2 := hr
  have hr1 : Room 1 _ := hr.mono (by decide)
  refine ⟨_, (pss_cons (ps_set (i := 4) nd rfl (Or.inl rfl) (pe_op op_mod (pv 0) pe_int))
      (pss_cons (ps_set (i := 5) nd rfl (Or.inl rfl) (pe_op op_fdiv (pv 0) pe_int))
      (pss_cons (ps_if (pt_cmpR op_eq (pv 4) pe_int (nomark _)) (pss_one (ps_ret (pe_makeN MH (by rfl) hCe))) pss_nil)
      (pss_cons (ps_mid (ps_if (pw_and (pt_cmpR op_in_seq (pv 4) (pe_tup (pa_cons pe_int (pa_cons pe_int pa_nil))) rfl) (pw_and1 (pt_cmpR op_gt (pe_callB call_len_seq (by rfl) hlen PySem.boot_len (pa_cons (pv 1) pa_nil)) pe_int (nomark _)))).pt (pss_one (ps_ret (pe_okI IC hCc hr2 (by rfl) passF (pa_cons (pe_ix ix_list (pv 1) (pe_op op_mod (pv 5) (pe_callB call_len_seq (by rfl) hlen PySem.boot_len (pa_cons (pv 1) pa_nil))) (fun _ _ => rfl)) pa_nil)))) pss_nil))
      (pss_cons (ps_mid (ps_if (pw_and (pt_cmpR op_gt (pv 4) pe_int (nomark _)) (pw_and1 (pt_cmpR op_gt (pe_callB call_len_seq (by rfl) hlen PySem.boot_len (pa_cons (pv 2) pa_nil)) pe_int (nomark _)))).pt (pss_cons (ps_set (i := 6) nd rfl (Or.inl rfl) (pe_ix ix_list (pv 2) (pe_op op_mod (pv 5) (pe_callB call_len_seq (by rfl) hlen PySem.boot_len (pa_cons (pv 2) pa_nil))) (fun _ _ => rfl)))
      (pss_cons (ps_set (i := 7) nd rfl (Or.inl rfl) (pe_op op_sub (pe_op op_mod (pe_op op_fdiv (pv 5) pe_int) pe_int) pe_int))
      (pss_cons (ps_if (pt_cmpR op_eq (pv 4) pe_int (nomark _)) (pss_one (ps_ret (pe_okI IH hCh hr2 (by rfl) passF (pa_cons (pv 6) (pa_cons (pv 7) (pa_cons (pe_ok KB hr1 (by rfl) passF (pa_cons (pe_op op_fdiv (pv 5) pe_int) pa_nil)) pa_nil)))))) pss_nil)
      (pss_cons (ps_set (i := 8) nd rfl (Or.inl rfl) (pe_okI IP hCp hr2 (by rfl) passF (pa_cons pe_str (pa_cons (pe_makeN MH (by rfl) hCe) (pa_cons (pe_okI IN hCn hr2 (by rfl) passF (pa_cons (pv 7) pa_nil)) pa_nil)))))
      (pss_cons (ps_mid (ps_if (pt_cmpR op_gt (pe_op op_mod (pe_op op_fdiv (pv 5) pe_int) pe_int) pe_int (nomark _)) (pss_one (ps_set (i := 8) nd rfl (Or.inl rfl) (pe_okI IP hCp hr2 (by rfl) passF (pa_cons pe_str (pa_cons (pv 8) (pa_cons (pe_okI IN hCn hr2 (by rfl) passF (pa_cons (pe_ix ix_list (pv 3) (pv 6) (fun _ _ => rfl)) pa_nil)) pa_nil)))))) pss_nil))
      (pss_one (ps_ret (pe_okI IA hCa hr2 (by rfl) passF (pa_cons (pv 6) (pa_cons (pv 8) pa_nil)))))))))) pss_nil))
      (pss_one (ps_ret (pe_okI IN hCn hr2 (by rfl) passF (pa_cons (pe_ifExp (pt_cmpR op_eq (pv 4) pe_int (nomark _)) (pe_op op_sub (pe_op op_mod (pv 5) pe_int) pe_int) (pe_ok KB hr1 (by rfl) passF (pa_cons (pv 5) pa_nil))) pa_nil))))))))), ?_⟩
  refine ⟨_, rfl, _, _, rfl, rfl, (by show (0 : Int) < 7; decide), ?_⟩
  refine ⟨_, rfl, _, _, rfl, rfl, ⟨by decide, by decide⟩, ?_⟩
  refine ⟨_, rfl, rfl, _, rfl, ?_⟩
  rw [intEq]
  refine ite2 (fun z => ?_) (fun z => ?_)
  · refine fun x dx nx ndx ne => ?_
    refine q _ x .here (same_upd (same_upd (Same.refl _) ndx) nx) ⟨dx, upd_same⟩ ⟨(W.here _).mono (by decide), fun _ _ _ _ _ => trivial⟩
  have z : ¬ cc % 7 = 2 := by simpa using z
  have gd : ∀ (l : List Int) (i : Int), 0 < (l.length : Int) → ∃ j : Nat, j < l.length ∧ i % (l.length : Int) = j := fun l i h => ⟨(i % (l.length : Int)).toNat, by have := Int.emod_lt_of_pos i h; have := Int.emod_nonneg i (Int.ne_of_gt h); omega, by have := Int.emod_nonneg i (Int.ne_of_gt h); omega⟩
  refine ⟨fun σ' H' => σ' = [some (.int cc), some (.ref ra), some (.ref fa), some (.ref la), some (.int (cc % 7)), some (.int (cc / 7)), none, none, none] ∧ Same H H', ?_, ?_⟩
  · refine ⟨_, rfl, (by show 2 ≤ sizeLine; decide), fun t3 nt3 => ⟨t3, _, rfl, .inr (SqT.of upd_same), rfl, rfl, _, rfl, ?_⟩⟩
    have s3 : Same H (upd H t3 (.tup [.int 3, .int 4])) := same_upd (Same.refl _) nt3
    generalize upd H t3 (.tup [.int 3, .int 4]) = H1 at s3 ⊢
    refine ite2 (fun z3 => ?_) (fun _ => iteF ⟨rfl, s3⟩)
    refine ⟨_, rfl, ra, _, rfl, .inl (sql_same hra s3), _, _, rfl, rfl, _, rfl, ?_⟩
    rw [List.length_map]
    refine ite2 (fun z4 => ?_) (fun _ => ⟨rfl, s3⟩)
    have z4 : 0 < (rows.length : Int) := by simpa using z4
    obtain ⟨j, hj, ej⟩ := gd rows (cc / 7) z4
    refine ⟨_, rfl, _, rfl, _, rfl, ra, _, rfl, .inl (sql_same hra s3), _, _, rfl, rfl, (by rw [List.length_map]; exact z4), ?_⟩
    rw [List.length_map]
    refine ⟨ra, _, _, .int (rows.getD j 0), rfl, rfl, sql_same hra s3, at_int j hj ej, fun x dx nx ndx _ => ⟨x, dx, _, rfl, upd_same, fun J k e => ⟨rfl, ?_⟩⟩⟩
    have m := ok.ro _ (L2.getD_mem hj)
    refine q _ x (.cell (rows.getD j 0)) (s3.trans (made_same nx ndx k)) ⟨dx, e⟩ ⟨(W.cell _ _).mono (by decide), fun cs p hp _ _ => ⟨⟨m.1, m.2.1⟩, ?_, fun nz => ⟨by show 0 ≤ (p : Int); omega, ?_⟩⟩⟩
    · exact (ok.le _ (L2.getD_mem m.2.1)).1
    · rcases m.2.2 with e | e
      · show (p : Int) < lens.getD (rows.getD j 0).toNat 0
        rw [e]; exact hp
      · exact absurd e nz
  rintro σ' H1 ⟨rfl, s1⟩
  refine ⟨fun σ' H' => (∃ u6 u7 u8, σ' = [some (.int cc), some (.ref ra), some (.ref fa), some (.ref la), some (.int (cc % 7)), some (.int (cc / 7)), u6, u7, u8]) ∧ Same H H', ?_, ?_⟩
  · refine ⟨_, rfl, _, _, rfl, rfl, _, rfl, ?_⟩
    refine ite2 (fun z3 => ?_) (fun _ => iteF ⟨⟨_, _, _, rfl⟩, s1⟩)
    refine ⟨_, rfl, fa, _, rfl, .inl (sql_same hfa s1), _, _, rfl, rfl, _, rfl, ?_⟩
    rw [List.length_map]
    refine ite2 (fun z4 => ?_) (fun _ => ⟨⟨_, _, _, rfl⟩, s1⟩)
    have z4 : 0 < (far.length : Int) := by simpa using z4
    obtain ⟨j, hj, ej⟩ := gd far (cc / 7) z4
    refine ⟨_, rfl, _, rfl, _, rfl, fa, _, rfl, .inl (sql_same hfa s1), _, _, rfl, rfl, (by rw [List.length_map]; exact z4), ?_⟩
    rw [List.length_map]
    refine ⟨fa, _, _, .int (far.getD j 0), rfl, rfl, sql_same hfa s1, at_int j hj ej, ?_⟩
    have m := ok.fa _ (L2.getD_mem hj)
    generalize far.getD j 0 = row at m ⊢
    refine ⟨_, rfl, _, _, rfl, rfl, ⟨by decide, by decide⟩, _, _, rfl, rfl, (by show (0 : Int) < 7; decide), _, _, rfl, rfl, ?_⟩
    have hby : Kin (cc / 7 / 7 % 7 - 3) := kin_small (by omega) (by omega)
    refine ⟨_, rfl, rfl, _, rfl, ?_⟩
    refine ite2 (fun z5 => ?_) (fun z5 => ?_)
    · refine ⟨_, rfl, _, rfl, _, rfl, _, _, rfl, rfl, ⟨by decide, by decide⟩, _, rfl, fun H2 s2 => fun x dx nx ndx _ => ⟨x, dx, _, _, _, rfl, upd_same, fun J k e => ⟨rfl, ?_⟩⟩⟩
      exact q _ x (.shi row _ _) ((s1.trans s2).trans (made_same nx ndx k)) ⟨dx, e⟩ ⟨(W.shi _ _ _ _).mono (by decide), fun cs p _ _ _ => ⟨m, keptBy_in _⟩⟩
    · refine fun x1 dx1 nx1 ndx1 ne1 => ?_
      have s2 : Same H1 (upd (upd H1 dx1 (.own x1)) x1 (.ins c.here dx1 [])) := same_upd (same_upd (Same.refl _) ndx1) nx1
      have e1 : upd (upd H1 dx1 (.own x1)) x1 (.ins c.here dx1 []) x1 = some (.ins c.here dx1 []) := upd_same
      generalize upd (upd H1 dx1 (.own x1)) x1 (.ins c.here dx1 []) = H2 at s2 e1 ⊢
      refine ⟨_, rfl, fun x2 dx2 nx2 ndx2 _ => ⟨x2, dx2, _, rfl, upd_same, fun H3 k3 e3 => ⟨rfl, ?_⟩⟩⟩
      have s3 := made_same nx2 ndx2 k3
      refine fun x3 dx3 nx3 ndx3 _ => ⟨x3, dx3, _, _, _, rfl, upd_same, fun H4 k4 e4 => ⟨rfl, ?_⟩⟩
      have s4 := made_same nx3 ndx3 k4
      have f4 : F2.FormAt c H4 (.pair "+" .here (.num (cc / 7 / 7 % 7 - 3))) x3 := ⟨dx3, x1, x2, e4, ⟨dx1, s4 _ _ (s3 _ _ e1)⟩, ⟨dx2, s4 _ _ e3⟩⟩
      have g4 : F2.Worth P w K mg base c CN OU 4 FS 2 (.pair "+" .here (.num (cc / 7 / 7 % 7 - 3))) := W.pair _ _ _ _ 3 (by decide) ((W.here _).mono (by decide)) ((W.num _ _).mono (by decide))
      have w4 : ∀ S, F2.WF FS 2 S (.pair "+" .here (.num (cc / 7 / 7 % 7 - 3))) := fun S => ⟨by simp [signs], trivial, hby⟩
      have s04 := ((s1.trans s2).trans s3).trans s4
      refine ⟨fun σ' H' => ∃ (y : Addr) (F : F2.Fm), σ' = [some (.int cc), some (.ref ra), some (.ref fa), some (.ref la), some (.int (cc % 7)), some (.int (cc / 7)), some (.int row), some (.int (cc / 7 / 7 % 7 - 3)), some (.ref y)] ∧ Same H H' ∧ F2.FormAt c H' F y ∧ F2.Worth P w K mg base c CN OU 5 FS 2 F ∧ ∀ cs p, F2.WF FS 2 ⟨lens, cs, p, []⟩ F, ?_, ?_⟩
      · refine ⟨_, rfl, _, _, rfl, rfl, ⟨by decide, by decide⟩, _, _, rfl, rfl, (by show (0 : Int) < 8; decide), _, _, rfl, rfl, _, rfl, ?_⟩
        refine ite2 (fun z6 => ?_) (fun z6 => ⟨x3, _, rfl, s04, f4, g4.mono (by decide), fun cs p => w4 _⟩)
        have lr := ok.le _ (L2.getD_mem m.2)
        refine ⟨_, rfl, _, rfl, _, rfl, la, _, _, _, rfl, rfl, sql_same hla s04, at_int row.toNat m.2 (by omega), fun x4 dx4 nx4 ndx4 _ => ⟨x4, dx4, _, rfl, upd_same, fun H5 k5 e5 => ⟨rfl, ?_⟩⟩⟩
        have s5 := made_same nx4 ndx4 k5
        refine fun x5 dx5 nx5 ndx5 _ => ⟨x5, dx5, _, _, _, rfl, upd_same, fun H6 k6 e6 => ⟨rfl, ?_⟩⟩
        have s6 := made_same nx5 ndx5 k6
        exact ⟨x5, .pair "rest" _ (.num (lens.getD row.toNat 0)), rfl, (s04.trans s5).trans s6, ⟨dx5, x3, x4, e6, (f4.same s5).same s6, ⟨dx4, s6 _ _ e5⟩⟩, W.pair _ _ _ _ 4 (by decide) g4 ((W.num _ _).mono (by decide)), fun cs p => ⟨by simp [signs], w4 _, kin_small (by omega) (by omega)⟩⟩
      · rintro σ' H5 ⟨y, F, rfl, s5, f5, g5, w5⟩
        refine ⟨_, rfl, _, rfl, fun x5 dx5 nx5 ndx5 _ => ⟨x5, dx5, _, _, rfl, upd_same, fun H6 k6 e6 => ⟨rfl, ?_⟩⟩⟩
        have s6 := made_same nx5 ndx5 k6
        exact q _ x5 (.at' row F) (s5.trans s6) ⟨dx5, y, e6, f5.same s6⟩ ⟨W.at' _ _ _ 5 (by decide) g5, fun cs p _ _ _ => ⟨m, w5 cs p⟩⟩
  rintro σ' H5 ⟨⟨u6, u7, u8, rfl⟩, s5⟩
  have fin : ∀ (n' : Int) (H6 : Hp), Kin n' → Same H H6 → tMake c.num (spI_Number c.num) [] E0 (tCons (tC (V.int n')) tNil) [some (.int cc), some (.ref ra), some (.ref fa), some (.ref la), some (.int (cc % 7)), some (.int (cc / 7)), u6, u7, u8] H6 Q := fun n' H6 hn s6 => fun x5 dx5 nx5 ndx5 _ => ⟨x5, dx5, _, rfl, upd_same, fun H7 k7 e7 => ⟨rfl, q _ x5 (.num n') (s6.trans (made_same nx5 ndx5 k7)) ⟨dx5, e7⟩ ⟨(W.num _ _).mono (by decide), fun cs p _ _ _ => hn⟩⟩⟩
  refine ⟨_, rfl, rfl, _, rfl, ?_⟩
  refine ite2 (fun z6 => ?_) (fun z6 => ?_)
  · exact ⟨_, rfl, _, _, rfl, rfl, (by show (0 : Int) < 5; decide), _, _, rfl, rfl, fin _ _ (kin_small (by show -1000 ≤ cc / 7 % 5 - 1; omega) (by show cc / 7 % 5 - 1 ≤ 1000; omega)) s5⟩
  · exact ⟨_, rfl, _, rfl, fun H6 s6 => fin _ _ (keptBy_in _) (s5.trans s6)⟩
end
end K16

namespace L2
open PySem PySem.Spec PyProof.Rows
/-- written constants -/
def constV : Expr → Option V
  | .Constant (.str x) _ _ => some (.str x)
  | .Constant (.int i) _ _ => some (.int i)
  | _ => none
def constsV : List Expr → Option (List V)
  | [] => some []
  | e :: es => match constV e with
    | some v => (match constsV es with
      | some vs => some (v :: vs)
      | none => none)
    | none => none
def tKs (vs : List V) : TA := fun _ H Q => Q vs H
theorem pa_ks {X : Cx} : ∀ {es : List Expr} {vs : List V}, constsV es = some vs → PA X es (tKs vs)
  | [], vs, h => by cases h; exact pa_nil
  | e :: es, vs, h => by
    unfold constsV at h
    split at h
    · rename_i v hv
      split at h
      · rename_i ws hw
        cases h
        have ih := pa_ks (X := X) hw
        unfold constV at hv
        split at hv
        · cases hv; exact pa_cons pe_str ih rfl
        · cases hv; exact pa_cons pe_int ih rfl
        · cases hv
      · cases h
    · cases h
end L2
namespace L2
open PySem PySem.Spec PyProof.Rows
/-- a block, a statement, kept shut (so that nothing looks through them too early) -/
structure PB (X : Cx) (sts : List Stmt) (t : TS) : Prop where
  h : PSs X sts t
structure PW1 (X : Cx) (st : Stmt) (t : TS) : Prop where
  h : PS X st t
section
variable {X : Cx} {st : Stmt} {rest : List Stmt} {t u : TS}
theorem pb_cons (h1 : PW1 X st t) (h2 : PB X rest u) : PB X (st :: rest) (tSeq t u) := ⟨pss_cons h1.h h2.h⟩
theorem pb_one (h1 : PW1 X st t) : PB X [st] t := ⟨pss_one h1.h⟩
theorem pw_ks {i : Nat} {x : Str} {es : List Expr} {vs : List V} {p pos pos' : Pos} (hN : X.N.Nodup) (hi : X.N[i]? = some x) (hx : Loc X.env.scope x) (h : constsV es = some vs) (hf : X.fn x = true ∨ X.env.scope.names.lookup x = some .local := by first | exact .inl rfl | exact .inr rfl | assumption) :
    PW1 X (.Assign [.Name x pos'] (.List es p) pos) (tAsg (tLst (tKs vs)) (gName i)) := ⟨ps_set hN hi hx (pe_lst (pa_ks h)) rfl hf⟩
end
section
variable {P : Program} {w : World} {K : PySem.W.Frag} {mg : Str → Option Value} {base : Heap}
theorem Fun.okB {x qual : Str} {st : Stmt} {f : Addr} {fd : FuncData} {N ps : List Str} {k : Nat} {sp : Sp} (F : Fun K x qual st f fd) (S : FnScope N ps (defScope st)) (len : ∀ vs H Q E, sp vs H Q E → vs.length = ps.length)
    (hbody : ∀ (cdv : Value) (A : Around) (outer : List Env) (s : Shared) (H : Hp) (vs : List V) (Q : VK) (E : XK), Room k (A.deeper (envOfC qual (defScope st) s.heap.objs.size f cdv)) → sp vs H Q E →
      ∃ t, PB (cxOf CX0 P w K mg base N qual (defScope st) f cdv A outer s H E).nox (defBody st) t ∧ t { nx := fun _ H' => Q .non H', rt := Q } (start N vs) H) : FnOk P w K mg base CX0 (k + 1) f fd ps sp :=
  F.ok S len fun cdv A outer s H vs Q E hr h => let ⟨t, q, z⟩ := hbody cdv A outer s H vs Q E hr h; ⟨t, q.h, z⟩
end
end L2

namespace L2
open PySem PySem.Spec PyProof.Rows
theorem pe_ok0 {X : Cx} {CX : CXT} {k : Nat} {x : Str} {ps : List Str} {sp : Sp} {E : XK} {p pos : Pos} (o : Ok X.prog X.w X.K X.mg X.base CX k x ps sp) (hr : Room k X.A) (hg : Gl X x) (hx : Passes CX X E) (hdb : (x == ("__debug__" : Str)) = false := by decide) : PE X (.Call (.Name x p) [] [] pos) (tCall sp [] E tNil) := by
  obtain ⟨f, fd, m, kp, b, F⟩ := o
  exact pe_call0 F hr hg m kp b .nil hx hdb
end L2
namespace K16
open PySem L2 FM ST
section
variable {P : Program} {w : World} {K : PySem.W.Frag} {mg : Str → Option Value} {base : Heap}
def spFuns (c : F2.Cs) (K : PySem.W.Frag) : Sp := fun vs H Q _ => vs = [] ∧ ∀ (H' : Hp) (f : Addr), Same H H' → F2.FunsAt c K H' f FS → Q (.ref f) H'
theorem ok_funs {c : F2.Cs} (d : DefIn K mg "_law_functions" s_l_functions []) (MH : MkN K c.here) (hCe : mg "Here" = some (.ref c.here)) (hCn : mg "Number" = some (.ref c.num)) (hCl : mg "Local" = some (.ref c.loc)) (hCp : mg "Pair" = some (.ref c.pair)) (hCo : mg "Choice" = some (.ref c.cho))
    (IN : OkI P w K mg base (CXe P w base) 1 c.num ["self", "number"] (spI_Number c.num)) (IL : OkI P w K mg base (CXe P w base) 1 c.loc ["self", "at"] (spI_Local c.loc)) (IP : OkI P w K mg base (CXe P w base) 1 c.pair ["self", "sign", "left", "right"] (spI_Pair c.pair)) (IO : OkI P w K mg base (CXe P w base) 1 c.cho ["self", "test", "left", "right"] (spI_Choice c.cho)) :
    Ok P w K mg base (CXe P w base) 3 "_law_functions" [] (spFuns c K) := by
  obtain ⟨g, fd, m, F, b⟩ := d
  refine ⟨g, fd, m, F.kp, b, F.okE sc_l_functions (fun vs H Q E ⟨e, _⟩ => by rw [e]; rfl) fun cdv A outer s H vs Q E hr h => ?_⟩
  obtain ⟨rfl, q⟩ := h
  have nd := sc_l_functions.nd
  have hr2 := hr
  refine ⟨_, (pss_cons (ps_set (i := 0) nd rfl (Or.inl rfl) (pe_okI IO hCo hr2 (by rfl) passF (pa_cons (pe_okI IL hCl hr2 (by rfl) passF (pa_cons pe_int pa_nil)) (pa_cons (pe_okI IP hCp hr2 (by rfl) passF (pa_cons pe_str (pa_cons (pe_okI IN hCn hr2 (by rfl) passF (pa_cons pe_int pa_nil)) (pa_cons (pe_okI IL hCl hr2 (by rfl) passF (pa_cons pe_int pa_nil)) pa_nil)))) (pa_cons (pe_makeN MH (by rfl) hCe) pa_nil)))))
      (pss_one (ps_ret (pe_lst (pa_cons (pe_tup (pa_cons pe_int (pa_cons (pv 0) pa_nil))) (pa_cons (pe_tup (pa_cons pe_int (pa_cons (pe_okI IP hCp hr2 (by rfl) passF (pa_cons pe_str (pa_cons (pe_okI IP hCp hr2 (by rfl) passF (pa_cons pe_str (pa_cons (pe_okI IL hCl hr2 (by rfl) passF (pa_cons pe_int pa_nil)) (pa_cons (pe_okI IN hCn hr2 (by rfl) passF (pa_cons pe_int pa_nil)) pa_nil)))) (pa_cons (pe_okI IL hCl hr2 (by rfl) passF (pa_cons pe_int pa_nil)) pa_nil)))) pa_nil))) pa_nil)))))), ?_⟩
  refine fun x1 dx1 nx1 ndx1 _ => ⟨x1, dx1, _, rfl, upd_same, fun H1 k1 e1 => ⟨rfl, ?_⟩⟩
  have s1 := made_same nx1 ndx1 k1
  refine fun x2 dx2 nx2 ndx2 _ => ⟨x2, dx2, _, rfl, upd_same, fun H2 k2 e2 => ⟨rfl, ?_⟩⟩
  have s2 := made_same nx2 ndx2 k2
  refine fun x3 dx3 nx3 ndx3 _ => ⟨x3, dx3, _, rfl, upd_same, fun H3 k3 e3 => ⟨rfl, ?_⟩⟩
  have s3 := made_same nx3 ndx3 k3
  refine fun x4 dx4 nx4 ndx4 _ => ⟨x4, dx4, _, _, _, rfl, upd_same, fun H4 k4 e4 => ⟨rfl, ?_⟩⟩
  have s4 := made_same nx4 ndx4 k4
  refine fun x5 dx5 nx5 ndx5 ne5 => ?_
  have s5 : Same H4 (upd (upd H4 dx5 (.own x5)) x5 (.ins c.here dx5 [])) := same_upd (same_upd (Same.refl _) ndx5) nx5
  have e5 : upd (upd H4 dx5 (.own x5)) x5 (.ins c.here dx5 []) x5 = some (.ins c.here dx5 []) := upd_same
  generalize upd (upd H4 dx5 (.own x5)) x5 (.ins c.here dx5 []) = H5 at s5 e5 ⊢
  refine fun x6 dx6 nx6 ndx6 _ => ⟨x6, dx6, _, _, _, rfl, upd_same, fun H6 k6 e6 => ⟨rfl, ?_⟩⟩
  have s6 := made_same nx6 ndx6 k6
  have s46 := s5.trans s6
  have s36 := s4.trans s46
  have s16 := s2.trans (s3.trans s36)
  have f6 : F2.FormAt c H6 fnOne x6 := ⟨dx6, x1, x4, x5, e6, ⟨dx1, s16 _ _ e1⟩, ⟨dx4, x2, x3, s46 _ _ e4, ⟨dx2, (s3.trans s36) _ _ e2⟩, ⟨dx3, s36 _ _ e3⟩⟩, ⟨dx5, s6 _ _ e5⟩⟩
  have s06 := s1.trans s16
  clear s46 s36 s16 e6 e1 e2 e3 e4 e5 s1 s2 s3 s4 s5 s6
  refine ⟨_, rfl, (by show 2 ≤ sizeLine; decide), fun t1 nt1 => ?_⟩
  have z1 : Same H6 (upd H6 t1 (.tup [.int 1, .ref x6])) := same_upd (Same.refl _) nt1
  have y1 : upd H6 t1 (.tup [.int 1, .ref x6]) t1 = some (.tup [.int 1, .ref x6]) := upd_same
  generalize upd H6 t1 (.tup [.int 1, .ref x6]) = H7 at z1 y1 ⊢
  refine fun x1 dx1 nx1 ndx1 _ => ⟨x1, dx1, _, rfl, upd_same, fun J1 k1 e1 => ⟨rfl, ?_⟩⟩
  have s1 := made_same nx1 ndx1 k1
  refine fun x2 dx2 nx2 ndx2 _ => ⟨x2, dx2, _, rfl, upd_same, fun J2 k2 e2 => ⟨rfl, ?_⟩⟩
  have s2 := made_same nx2 ndx2 k2
  refine fun x3 dx3 nx3 ndx3 _ => ⟨x3, dx3, _, _, _, rfl, upd_same, fun J3 k3 e3 => ⟨rfl, ?_⟩⟩
  have s3 := made_same nx3 ndx3 k3
  refine fun x4 dx4 nx4 ndx4 _ => ⟨x4, dx4, _, rfl, upd_same, fun J4 k4 e4 => ⟨rfl, ?_⟩⟩
  have s4 := made_same nx4 ndx4 k4
  refine fun x5 dx5 nx5 ndx5 _ => ⟨x5, dx5, _, _, _, rfl, upd_same, fun J5 k5 e5 => ⟨rfl, ?_⟩⟩
  have s5 := made_same nx5 ndx5 k5
  have s45 := s4.trans s5
  have s35 := s3.trans s45
  have g5 : F2.FormAt c J5 fnTwo x5 := ⟨dx5, x3, x4, e5, ⟨dx3, x1, x2, s45 _ _ e3, ⟨dx1, (s2.trans s35) _ _ e1⟩, ⟨dx2, s35 _ _ e2⟩⟩, ⟨dx4, s5 _ _ e4⟩⟩
  have s75 := s1.trans (s2.trans s35)
  refine ⟨(by show 2 ≤ sizeLine; decide), fun t2 nt2 => ⟨(by show 2 ≤ sizeLine; decide), fun f nf => ?_⟩⟩
  have z2 : Same J5 (upd J5 t2 (.tup [.int 2, .ref x5])) := same_upd (Same.refl _) nt2
  have y2 : upd J5 t2 (.tup [.int 2, .ref x5]) t2 = some (.tup [.int 2, .ref x5]) := upd_same
  generalize upd J5 t2 (.tup [.int 2, .ref x5]) = J6 at z2 y2 nf ⊢
  have z3 : Same J6 (upd J6 f (.lst [.ref t1, .ref t2])) := same_upd (Same.refl _) nf
  refine q _ f (((s06.trans z1).trans s75).trans (z2.trans z3)) ⟨[t1, t2], SqL.of upd_same, rfl, fun i hi => ?_⟩
  have hi : i < 2 := hi
  have h3 : i = 0 ∨ i = 1 := by omega
  rcases h3 with rfl | rfl
  · exact ⟨x6, SqT.of ((s75.trans (z2.trans z3)) _ _ y1), f6.same (z1.trans (s75.trans (z2.trans z3)))⟩
  · exact ⟨x5, SqT.of (z3 _ _ y2), g5.same (z2.trans z3)⟩
end
end K16

namespace K16
open PySem L2 FM ST
theorem sign_at {i : Nat} (h : i < 12) : (signs.map V.str)[i]? = some (.str (signs.getD i "")) ∧ signs.getD i "" ∈ signs := by
  constructor
  · rw [List.getElem?_map, List.getD_eq_getElem?_getD, List.getElem?_eq_getElem (show i < signs.length from h)]; rfl
  · rw [List.getD_eq_getElem?_getD, List.getElem?_eq_getElem (show i < signs.length from h)]; exact List.getElem_mem _
section
variable {P : Program} {w : World} {K : PySem.W.Frag} {mg : Str → Option Value} {base : Heap}
theorem FormG.mono {c : F2.Cs} {CN OU : Addr} {j k : Nat} {lens : List Int} {n : Int} {F : F2.Fm} (h : FormG P w K mg base c CN OU j lens n F) (l : j ≤ k) : FormG P w K mg base c CN OU k lens n F := ⟨h.wo.mono l, h.wf⟩
def spValBy (P : Program) (w : World) (K : PySem.W.Frag) (mg : Str → Option Value) (base : Heap) (c : F2.Cs) (CN OU : Addr) : Sp := fun vs H Q _ => ∃ (ra fa la : Addr) (cc : Int) (rows far lens : List Int) (n : Int), vs = [.int cc, .ref ra, .ref fa, .ref la] ∧ SqL K H ra (rows.map V.int) ∧ SqL K H fa (far.map V.int) ∧ SqL K H la (lens.map V.int) ∧ RowsOk rows far lens n ∧
  ∀ (H' : Hp) (x : Addr) (F : F2.Fm), Same H H' → F2.FormAt c H' F x → FormG P w K mg base c CN OU 7 lens n F → Q (.ref x) H'
theorem ok_valBy {c : F2.Cs} {CN OU : Addr} (d : DefIn K mg "_law_value_by" s_l_value_by ["_law_cell", "_law_rows", "_law_far", "_law_lengths"]) (W : Works2 P w K mg base c CN OU FS) (hCp : mg "Pair" = some (.ref c.pair)) (hCo : mg "Choice" = some (.ref c.cho)) (hCa : mg "Call" = some (.ref c.call))
    (IP : OkI P w K mg base (CXe P w base) 1 c.pair ["self", "sign", "left", "right"] (spI_Pair c.pair)) (IO : OkI P w K mg base (CXe P w base) 1 c.cho ["self", "test", "left", "right"] (spI_Choice c.cho)) (ICa : OkI P w K mg base (CXe P w base) 1 c.call ["self", "at", "handed"] (spI_Call K c.call))
    (MX : Ok P w K mg base (CXe P w base) 1 "_law_mix" ["_law_cell", "_law_factor", "_law_prime"] spMix) (LB : Ok P w K mg base (CXe P w base) 3 "_law_leaf_by" ["_law_cell", "_law_rows", "_law_far", "_law_lengths"] (spLeafBy P w K mg base c CN OU)) :
    Ok P w K mg base CX0 4 "_law_value_by" ["_law_cell", "_law_rows", "_law_far", "_law_lengths"] (spValBy P w K mg base c CN OU) := by
  obtain ⟨g, fd, m, F, b⟩ := d
  refine ⟨g, fd, m, F.kp, b, F.okB sc_l_value_by (fun vs H Q E ⟨_, _, _, _, _, _, _, _, e, _⟩ => by rw [e]; rfl) fun cdv A outer s H vs Q E hr h => ?_⟩
  obtain ⟨ra, fa, la, cc, rows, far, lens, n, rfl, hra, hfa, hla, ok, q⟩ := h
  have nd := sc_l_value_by.nd
  have hr3 := hr
  have hr2 : Room 2 _ := hr.mono (by decide)
  have hr1 : Room 1 _ := hr.mono (by decide)
  refine ⟨_, (pb_cons (pw_ks (i := 4) nd rfl (Or.inl rfl) rfl)
      (pb_cons (PW1.mk (ps_set (i := 5) nd rfl (Or.inl rfl) (pe_op op_mod (pv 0) pe_int)))
      (pb_cons (PW1.mk (ps_set (i := 6) nd rfl (Or.inl rfl) (pe_ok LB hr3 (by rfl) passF (pa_cons (pe_ok MX hr1 (by rfl) passF (pa_cons (pv 0) (pa_cons pe_int (pa_cons pe_int pa_nil)))) (pa_cons (pv 1) (pa_cons (pv 2) (pa_cons (pv 3) pa_nil)))))))
      (pb_cons (PW1.mk (ps_set (i := 7) nd rfl (Or.inl rfl) (pe_ok LB hr3 (by rfl) passF (pa_cons (pe_ok MX hr1 (by rfl) passF (pa_cons (pv 0) (pa_cons pe_int (pa_cons pe_int pa_nil)))) (pa_cons (pv 1) (pa_cons (pv 2) (pa_cons (pv 3) pa_nil)))))))
      (pb_cons (PW1.mk (ps_if (pt_cmpR op_eq (pv 5) pe_int (nomark _)) (pss_one (ps_ret (pv 6))) pss_nil))
      (pb_cons (PW1.mk (ps_if (pt_cmpR op_lt (pv 5) pe_int (nomark _)) (pss_one (ps_ret (pe_okI IP hCp hr2 (by rfl) passF (pa_cons (pe_ix ix_list (pv 4) (pe_op op_mod (pe_op op_fdiv (pv 0) pe_int) pe_int) (fun _ _ => rfl)) (pa_cons (pv 6) (pa_cons (pv 7) pa_nil)))))) pss_nil))
      (pb_cons (PW1.mk (ps_if (pt_cmpR op_eq (pv 5) pe_int (nomark _)) (pss_one (ps_ret (pe_okI IO hCo hr2 (by rfl) passF (pa_cons (pv 6) (pa_cons (pv 7) (pa_cons (pe_ok LB hr3 (by rfl) passF (pa_cons (pe_ok MX hr1 (by rfl) passF (pa_cons (pv 0) (pa_cons pe_int (pa_cons pe_int pa_nil)))) (pa_cons (pv 1) (pa_cons (pv 2) (pa_cons (pv 3) pa_nil))))) pa_nil)))))) pss_nil))
      (pb_one (PW1.mk (ps_ret (pe_okI ICa hCa hr2 (by rfl) passF (pa_cons (pe_op op_mod (pe_op op_fdiv (pv 0) pe_int) pe_int) (pa_cons (pe_slice sl_list (pe_lst (pa_cons (pv 6) (pa_cons (pv 7) pa_nil))) po_none (po_some (pe_op op_add pe_int (pe_op op_mod (pe_op op_fdiv (pv 0) pe_int) pe_int)))) pa_nil))))))))))))), ?_⟩
  refine ⟨(by show 12 ≤ sizeLine; decide), fun sg nsg => ?_⟩
  have s0 : Same H (upd H sg (.lst (signs.map V.str))) := same_upd (Same.refl H) nsg
  have esg : upd H sg (.lst (signs.map V.str)) sg = some (.lst (signs.map V.str)) := upd_same
  revert s0 esg
  show Same H (upd H sg (.lst [.str "+", .str "-", .str "*", .str "/", .str "rest", .str "least", .str "most", .str "<", .str "=", .str "&", .str "|", .str "^"])) → upd H sg (.lst [.str "+", .str "-", .str "*", .str "/", .str "rest", .str "least", .str "most", .str "<", .str "=", .str "&", .str "|", .str "^"]) sg = some (.lst (signs.map V.str)) → _
  generalize upd H sg (.lst [.str "+", .str "-", .str "*", .str "/", .str "rest", .str "least", .str "most", .str "<", .str "=", .str "&", .str "|", .str "^"]) = H0
  intro s0 esg
  refine ⟨_, rfl, _, _, rfl, rfl, (by show (0 : Int) < 6; decide), ?_⟩
  refine ⟨_, rfl, _, _, _, rfl, by decide, by decide, by decide, _, rfl, _, rfl, _, rfl, ra, fa, la, _, rows, far, lens, n, rfl, sql_same hra s0, sql_same hfa s0, sql_same hla s0, ok, fun H1 x1 F1 s1 f1 g1 => ?_⟩
  have s01 := s0.trans s1
  refine ⟨_, rfl, _, _, _, rfl, by decide, by decide, by decide, _, rfl, _, rfl, _, rfl, ra, fa, la, _, rows, far, lens, n, rfl, sql_same hra s01, sql_same hfa s01, sql_same hla s01, ok, fun H2 x2 F2' s2 f2 g2 => ?_⟩
  have s02 := s01.trans s2
  have f1 := f1.same s2
  have esg := s2 _ _ (s1 _ _ esg)
  refine ⟨_, rfl, rfl, _, rfl, ?_⟩
  refine ite2 (fun z => ?_) (fun z => ?_)
  · exact ⟨_, rfl, q _ _ F1 s02 f1 (g1.mono (by decide))⟩
  refine ⟨_, rfl, _, _, rfl, rfl, _, rfl, ?_⟩
  refine ite2 (fun z1 => ?_) (fun z1 => ?_)
  · obtain ⟨j, hj, ej⟩ : ∃ j : Nat, j < 12 ∧ cc / 6 % 12 = j := ⟨(cc / 6 % 12).toNat, by omega, by omega⟩
    obtain ⟨a1, a2⟩ := sign_at hj
    refine ⟨_, rfl, _, rfl, _, _, rfl, rfl, ⟨by decide, by decide⟩, _, _, rfl, rfl, (by show (0 : Int) < 12; decide), sg, _, _, .str (signs.getD j ""), rfl, rfl, SqL.of esg, ?_, ?_⟩
    · show atI _ (cc / 6 % 12) = _
      rw [ej]
      exact atI_nat a1
    refine ⟨_, rfl, _, rfl, fun x dx nx ndx _ => ⟨x, dx, _, _, _, rfl, upd_same, fun J k e => ⟨rfl, ?_⟩⟩⟩
    have sj := made_same nx ndx k
    exact q _ x (.pair (signs.getD j "") F1 F2') (s02.trans sj) ⟨dx, x1, x2, e, f1.same sj, f2.same sj⟩ ⟨W.pair _ _ _ _ 6 (by decide) g1.wo g2.wo, fun cs p h1 h2 h3 => ⟨a2, g1.wf cs p h1 h2 h3, g2.wf cs p h1 h2 h3⟩⟩
  refine ⟨_, rfl, rfl, _, rfl, ?_⟩
  refine ite2 (fun z2 => ?_) (fun z2 => ?_)
  · refine ⟨_, rfl, _, rfl, _, rfl, _, _, _, rfl, by decide, by decide, by decide, _, rfl, _, rfl, _, rfl, ra, fa, la, _, rows, far, lens, n, rfl, sql_same hra s02, sql_same hfa s02, sql_same hla s02, ok, fun H3 x3 F3 s3 f3 g3 => ?_⟩
    refine fun x dx nx ndx _ => ⟨x, dx, _, _, _, rfl, upd_same, fun J k e => ⟨rfl, ?_⟩⟩
    have sj := made_same nx ndx k
    exact q _ x (.cho F1 F2' F3) ((s02.trans s3).trans sj) ⟨dx, x1, x2, x3, e, (f1.same s3).same sj, (f2.same s3).same sj, f3.same sj⟩ ⟨W.cho _ _ _ _ 6 g1.wo g2.wo g3.wo, fun cs p h1 h2 h3 => ⟨g1.wf cs p h1 h2 h3, g2.wf cs p h1 h2 h3, g3.wf cs p h1 h2 h3⟩⟩
  obtain ⟨a, ha, ea⟩ : ∃ a : Int, (a = 0 ∨ a = 1) ∧ cc / 6 % 2 = a := ⟨cc / 6 % 2, by omega, rfl⟩
  refine ⟨_, rfl, _, _, rfl, rfl, ⟨by decide, by decide⟩, _, _, rfl, rfl, (by show (0 : Int) < 2; decide), _, rfl, _, rfl, (by show 2 ≤ sizeLine; decide), fun l1 nl1 => ?_⟩
  have s3 : Same H2 (upd H2 l1 (.lst [.ref x1, .ref x2])) := same_upd (Same.refl _) nl1
  have e3 : upd H2 l1 (.lst [.ref x1, .ref x2]) l1 = some (.lst [.ref x1, .ref x2]) := upd_same
  generalize upd H2 l1 (.lst [.ref x1, .ref x2]) = H3 at s3 e3 ⊢
  refine ⟨_, rfl, _, _, rfl, rfl, ⟨by decide, by decide⟩, _, _, rfl, rfl, (by show (0 : Int) < 2; decide), _, _, rfl, rfl, _, rfl, l1, _, rfl, SqL.of e3, fun l2 nl2 => ?_⟩
  have fin : ∀ (xs : List V) (ys : List Addr) (gs : F2.Fms), xs = ys.map V.ref → cutV [V.ref x1, V.ref x2] none (some (1 + cc / 6 % 2)) = xs → F2.FormsAt c H3 gs ys → (0 ≤ cc / 6 % 2 ∧ (cc / 6 % 2).toNat < 2 ∧ gs.len = F2.handsOf FS (cc / 6 % 2)) → gs.All (F2.Worth P w K mg base c CN OU 6 FS 2) → (∀ (cs : List Int) (p : Nat), (p : Int) < n → (cs.length : Int) = lens.sum → (∀ v ∈ cs, Kin v) → F2.WFs FS 2 ⟨lens, cs, p, []⟩ gs) →
      ∀ (x dx : Addr), (upd H3 l2 (.lst (cutV [V.ref x1, V.ref x2] none (some (1 + cc / 6 % 2))))) x = none → (upd H3 l2 (.lst (cutV [V.ref x1, V.ref x2] none (some (1 + cc / 6 % 2))))) dx = none → dx ≠ x → spI_Call K c.call [.ref x, .int (cc / 6 % 2), .ref l2] (upd (upd (upd H3 l2 (.lst (cutV [V.ref x1, V.ref x2] none (some (1 + cc / 6 % 2))))) dx (.own x)) x (.ins c.call dx [])) (fun v H' => v = .non ∧ Q (.ref x) H') E0 := by
    intro xs ys gs hxs hcv hf ha3 hal hwf x dx nx ndx ne
    rw [hcv] at nx ndx ⊢
    have s4 : Same H3 (upd H3 l2 (.lst xs)) := same_upd (Same.refl _) nl2
    have e4 : upd H3 l2 (.lst xs) l2 = some (.lst xs) := upd_same
    generalize upd H3 l2 (.lst xs) = H4 at s4 e4 nx ndx ⊢
    refine ⟨x, dx, l2, _, xs, rfl, upd_same, sql_same (SqL.of e4) (same_upd (same_upd (Same.refl _) ndx) nx), fun J l nl k hl e => ⟨rfl, ?_⟩⟩
    have sj := made_same nx ndx k
    exact q _ x (.call (cc / 6 % 2) gs) (((s02.trans s3).trans s4).trans sj) ⟨dx, l, ys, e, by rw [← hxs]; exact hl, (hf.same s4).same sj⟩ ⟨W.call _ _ _ 6 (by decide) hal (bodies_work W 2), fun cs p h1 h2 h3 => ⟨ha3.1, ha3.2.1, ha3.2.1, ha3.2.2, hwf cs p h1 h2 h3⟩⟩
  rcases ha with rfl | rfl
  · exact fin [.ref x1] [x1] (.cons F1 .nil) rfl (by rw [ea]; rfl) ⟨x1, [], rfl, f1.same s3, rfl⟩ (by rw [ea]; exact ⟨by decide, by decide, rfl⟩) ⟨g1.wo, trivial⟩ (fun cs p h1 h2 h3 => ⟨g1.wf cs p h1 h2 h3, trivial⟩)
  · exact fin [.ref x1, .ref x2] [x1, x2] (.cons F1 (.cons F2' .nil)) rfl (by rw [ea]; rfl) ⟨x1, [x2], rfl, f1.same s3, x2, [], rfl, f2.same s3, rfl⟩ (by rw [ea]; exact ⟨by decide, by decide, rfl⟩) ⟨g1.wo, g2.wo, trivial⟩ (fun cs p h1 h2 h3 => ⟨g1.wf cs p h1 h2 h3, g2.wf cs p h1 h2 h3, trivial⟩)
end
end K16

namespace L2
open PySem PySem.Spec PyProof.Rows
section
variable {prog : Program} {w : World} {A : Around} {s : Shared}
end
section
variable {prog : Program} {w : World} {A : Around} {E : Value → Shared → Prop} {s : Shared}
end
section
variable {X : Cx} {e : Expr} {te : TE} {p p' pos pos' : Pos}
/-- list(reversed(x)) -/
def tListRev (K : PySem.W.Frag) (te : TE) : TE := fun σ H Q => te σ H fun x H1 => ∃ a ys, x = .ref a ∧ SqL K H1 a ys ∧ ∀ l, H1 l = none → Q (.ref l) (upd H1 l (.lst ys.reverse))
/-- l.insert(0, x) -/
def rInsert0 : V → List V → Hp → VK → Prop := fun x vs H Q => ∃ l xs y, x = .ref l ∧ vs = [.int 0, y] ∧ H l = some (.lst xs) ∧ xs.length < sizeLine ∧ Q .non (upd H l (.lst (y :: xs)))
end
end L2

namespace L2
open PySem PySem.Spec PyProof.Rows PyProof
section
variable {X : Cx}
/-- l.insert(j, x), j a place of the list or its end -/
def rInsertN : V → List V → Hp → VK → Prop := fun x vs H Q => ∃ l xs y j, x = .ref l ∧ vs = [.int j, y] ∧ H l = some (.lst xs) ∧ xs.length < sizeLine ∧ 0 ≤ j ∧ j ≤ xs.length ∧ Q .non (upd H l (.lst (xs.take j.toNat ++ y :: xs.drop j.toNat)))
theorem mt_insertN : MtM X "list.insert" rInsertN := by
  intro pins s σ H x vs v us Q I rx rv h
  obtain ⟨l, xs, y, j, rfl, rfl, hH, hz, j0, j1, q⟩ := h
  cases rx
  cases rv with | cons r1 rv =>
  obtain ⟨u, rfl, ru⟩ := vals1 rv
  obtain ⟨t, rfl⟩ := r1
  obtain ⟨z, its, n, r, hl, e⟩ := I.lstM hH
  have le : its.length = xs.length := r.length.symm
  refine call_meets F.slot_list_insert ⟨_, e, rfl⟩ F.entry_list_insert (F.args_list_insert_3 _ _ _) (AutoSeq1.list_insert_list_int_val_1 l its.toArray n j t u ?_ (by rw [List.size_toArray]; omega)) ⟨e, ?_⟩
  · have SL : sizeLine < 9223372036854775807 := by decide
    have a1 : Builtin.List.listFitsIndex j = true := by
      unfold Builtin.List.listFitsIndex
      simp
      omega
    rw [a1]; decide
  refine ⟨.non, _, I.lset (its' := its.take j.toNat ++ u :: its.drop j.toNat) hH e ?_ ?_ ?_, rfl, q⟩
  · have a2 : (if j < 0 then (j + ((its.toArray.size : Nat) : Int)).toNat else min j.toNat its.toArray.size) = j.toNat := by
      rw [if_neg (by omega), List.size_toArray]; omega
    show ((its.toArray.extract 0 (if j < 0 then (j + ((its.toArray.size : Nat) : Int)).toNat else min j.toNat its.toArray.size)).push u ++ its.toArray.extract (if j < 0 then (j + ((its.toArray.size : Nat) : Int)).toNat else min j.toNat its.toArray.size)) = _
    rw [a2]
    apply Array.toList_inj.mp
    simp
    rw [List.take_of_length_le (by rw [List.length_drop]; exact Nat.le_refl _)]
  · exact (r.take _).append (.cons ru (r.drop _))
  · rw [List.length_append, List.length_cons, List.length_take, List.length_drop]; omega
end
end L2

namespace K16
open PySem L2 FM ST
section
variable {P : Program} {w : World} {K : PySem.W.Frag} {mg : Str → Option Value} {base : Heap}
/-- the rows' lengths -/
structure LensOk (lens : List Int) : Prop where
  l1 : 1 ≤ lens.length
  l6 : lens.length ≤ 6
  le : ∀ v ∈ lens, 1 ≤ v ∧ v ≤ 400
  on : (1 : Int) ∈ lens
def spLens (K : PySem.W.Frag) : Sp := fun vs H Q _ => ∃ (a : Addr) (ns : List Int), vs = [.ref a, .int 400] ∧ SqL K H a (ns.map V.int) ∧ ns.length ≤ 63 ∧ ∀ H' l lens, Hd H [(l, .lst (lens.map V.int))] H' → LensOk lens → Q (.ref l) H'
theorem ok_lens (d : DefIn K mg "_law_lengths_by" s_l_lengths_by ["_law_script", "_law_wide"]) (hlen : mg "len" = none) : Ok P w K mg base CX0 1 "_law_lengths_by" ["_law_script", "_law_wide"] (spLens K) := by
  obtain ⟨g, fd, m, F, b⟩ := d
  refine ⟨g, fd, m, F.kp, b, F.ok sc_l_lengths_by (fun vs H Q E ⟨_, _, e, _⟩ => by rw [e]; rfl) fun cdv A outer s H vs Q E hr h => ?_⟩
  obtain ⟨a, ns, rfl, hS, hn, q⟩ := h
  have nd := sc_l_lengths_by.nd
  have SL : (600 : Nat) < sizeLine := by decide
  refine ⟨_, (pss_cons (ps_if (pt_cmpR op_eq (pe_callB call_len_seq (by rfl) hlen PySem.boot_len (pa_cons (pv 0) pa_nil)) pe_int (nomark _)) (pss_one (ps_ret (pe_lst (pa_cons pe_int pa_nil)))) pss_nil)
      (pss_cons (ps_set (i := 2) nd rfl (Or.inl rfl) (pe_op op_add pe_int (pe_op op_mod (pe_ix ix_list (pv 0) pe_int (fun _ _ => rfl)) pe_int)))
      (pss_cons (ps_mid (ps_if (pt_cmpR op_eq (pe_op op_mod (pe_op op_fdiv (pe_ix ix_list (pv 0) pe_int (fun _ _ => rfl)) pe_int) pe_int) pe_int (nomark _)) (pss_one (ps_set (i := 2) nd rfl (Or.inl rfl) (pv 1))) pss_nil))
      (pss_cons (ps_set (i := 3) nd rfl (Or.inl rfl) (pe_lst pa_nil))
      (pss_cons (ps_for PassesOwn.never rfl (pi_list (pe_slice sl_list (pv 0) (po_some pe_int) (po_some pe_int))) (pg_name (i := 4) nd rfl (Or.inl rfl)) (pss_one (ps_expr (pe_bm PySem.F.plainAttrs_list PySem.F.slot_list_append PySem.F.type_list_append mt_append (pv 3) (pa_cons (pe_ix ix_list (pe_lst (pa_cons (pv 2) (pa_cons (pv 2) (pa_cons pe_int (pa_cons (pe_op op_add pe_int (pe_op op_mod (pe_op op_fdiv (pv 4) pe_int) pe_int)) pa_nil))))) (pe_op op_mod (pv 4) pe_int) (fun _ _ => rfl)) pa_nil)))))
      (pss_cons (ps_expr (pe_bm PySem.F.plainAttrs_list PySem.F.slot_list_insert PySem.F.type_list_insert mt_insertN (pv 3) (pa_cons (pe_op op_mod (pe_op op_fdiv (pe_ix ix_list (pv 0) pe_int (fun _ _ => rfl)) pe_int) (pe_op op_add (pe_callB call_len_seq (by rfl) hlen PySem.boot_len (pa_cons (pv 3) pa_nil)) pe_int)) (pa_cons pe_int pa_nil))))
      (pss_one (ps_ret (pv 3))))))))), ?_⟩
  refine ⟨_, rfl, a, _, rfl, .inl hS, rfl, _, rfl, ?_⟩
  rw [List.length_map, intEq]
  refine ite2 (fun z => ?_) (fun z => ?_)
  · refine ⟨(by show 1 ≤ sizeLine; decide), fun l nl => ?_⟩
    exact q _ l [1] (Hd.base.new nl) ⟨by decide, by decide, (by intro v hv; cases List.mem_singleton.mp hv; decide), by decide⟩
  have z : ¬ (ns.length : Int) = 0 := by simpa using z
  have h0 : 0 < ns.length := by omega
  have a0 := at_int (ns := ns) 0 h0 (show (0 : Int) = ((0 : Nat) : Int) from rfl)
  generalize ns.getD 0 0 = n0 at a0
  refine ⟨_, rfl, a, _, _, _, rfl, rfl, hS, a0, _, _, rfl, rfl, (by show (0 : Int) < 7; decide), _, _, rfl, rfl, ?_⟩
  refine ⟨fun σ' H' => ∃ mn : Int, 1 ≤ mn ∧ mn ≤ 400 ∧ σ' = [some (.ref a), some (.int 400), some (.int mn), none, none] ∧ H = H', ?_, ?_⟩
  · refine ⟨_, rfl, a, _, _, _, rfl, rfl, hS, a0, _, _, rfl, rfl, ⟨by decide, by decide⟩, _, _, rfl, rfl, (by show (0 : Int) < 8; decide), rfl, _, rfl, ?_⟩
    refine ite2 (fun z => ?_) (fun z => ?_)
    · exact ⟨_, rfl, 400, by decide, by decide, rfl, rfl⟩
    · exact ⟨1 + n0 % 7, by omega, by omega, rfl, rfl⟩
  rintro σ' H' ⟨mn, m1, m60, rfl, rfl⟩
  refine ⟨(by show 0 ≤ sizeLine; decide), fun l nl => ?_⟩
  have h : Hd H [(l, .lst ([] : List V))] _ := Hd.base.new nl
  generalize upd H l (.lst []) = H1 at h ⊢
  refine ⟨_, rfl, _, rfl, _, rfl, a, _, rfl, h.sql hS, fun sl nsl => ?_⟩
  rw [cutV_int (by decide) (by decide)]
  have hcl : (cutI ns 1 6).length ≤ 5 := by unfold cutI; simp; omega
  generalize cutI ns 1 6 = cl at hcl ⊢
  have h : Hd H [(sl, .lst (cl.map V.int)), (l, .lst (([] : List Int).map V.int))] _ := h.new nsl
  generalize upd H1 sl (.lst (cl.map V.int)) = H2 at h ⊢
  refine ⟨sl, rfl, ⟨_, h.lst 0 rfl⟩, ?_⟩
  refine for_list (K := K) (a := sl) (xs := cl.map V.int) (fun i σ J => ∃ (u : Option V) (ls : List Int), σ = [some (.ref a), some (.int 400), some (.int mn), some (.ref l), u] ∧ ls.length = i ∧ (∀ v ∈ ls, 1 ≤ v ∧ v ≤ 400) ∧ Hd H [(sl, .lst (cl.map V.int)), (l, .lst (ls.map V.int))] J) ⟨none, [], rfl, rfl, (fun v hv => nomatch hv), h⟩ (fun i σ J _ ⟨_, _, _, _, _, h⟩ => h.lst 0 rfl) ?_ ?_
  · clear h
    rintro i y σ J hi ⟨u, ls, rfl, hl, hle, h⟩
    obtain ⟨cc, hcc⟩ : ∃ cc : Int, y = .int cc := by
      rw [List.getElem?_map] at hi
      cases e : cl[i]? with
      | none => rw [e] at hi; cases hi
      | some cc => rw [e] at hi; exact ⟨cc, (Option.some.inj hi).symm⟩
    subst hcc
    have hi5 : i < cl.length := by
      have := (List.getElem?_eq_some_iff.mp hi).1
      rwa [List.length_map] at this
    refine ⟨_, rfl, .inl ⟨rfl, _, h.lst 1 rfl⟩, _, rfl, _, rfl, _, rfl, _, _, rfl, rfl, ⟨by decide, by decide⟩, _, _, rfl, rfl, (by show (0 : Int) < 6; decide), _, _, rfl, rfl, (by show 4 ≤ sizeLine; decide), fun t nt => ?_⟩
    have h : Hd H [(t, .lst (([mn, mn, 1, 1 + cc / 4 % 6] : List Int).map V.int)), (sl, .lst (cl.map V.int)), (l, .lst (ls.map V.int))] (upd J t (.lst (([mn, mn, 1, 1 + cc / 4 % 6] : List Int).map V.int))) := h.new nt
    obtain ⟨j, hj, ej⟩ : ∃ j : Nat, j < 4 ∧ cc % 4 = j := ⟨(cc % 4).toNat, by omega, by omega⟩
    have vb : 1 ≤ ([mn, mn, 1, 1 + cc / 4 % 6] : List Int).getD j 0 ∧ ([mn, mn, 1, 1 + cc / 4 % 6] : List Int).getD j 0 ≤ 400 := by
      have : j = 0 ∨ j = 1 ∨ j = 2 ∨ j = 3 := by omega
      rcases this with rfl | rfl | rfl | rfl
      · exact ⟨m1, m60⟩
      · exact ⟨m1, m60⟩
      · exact ⟨by show (1 : Int) ≤ 1; decide, by show (1 : Int) ≤ 400; decide⟩
      · exact ⟨by show (1 : Int) ≤ 1 + cc / 4 % 6; omega, by show 1 + cc / 4 % 6 ≤ 400; omega⟩
    refine ⟨_, rfl, _, _, rfl, rfl, (by show (0 : Int) < 4; decide), t, ([mn, mn, 1, 1 + cc / 4 % 6] : List Int).map V.int, _, .int (([mn, mn, 1, 1 + cc / 4 % 6] : List Int).getD j 0), rfl, rfl, h.lst 0 rfl, at_int (ns := [mn, mn, 1, 1 + cc / 4 % 6]) j hj ej, ?_⟩
    generalize ([mn, mn, 1, 1 + cc / 4 % 6] : List Int).getD j 0 = v at vb ⊢
    refine ⟨l, _, _, rfl, rfl, h.get 2 rfl, (by rw [List.length_map]; omega), ?_⟩
    have h := h.put (o' := .lst (ls.map V.int ++ [.int v])) 2 rfl
    refine ⟨_, ls ++ [v], rfl, by rw [List.length_append, hl]; rfl, fun x hx => ?_, ?_⟩
    · rcases List.mem_append.mp hx with hx | hx
      · exact hle x hx
      · cases List.mem_singleton.mp hx; exact vb
    · rw [List.map_append]; exact h.tl
  · clear h
    rintro σ J ⟨u, ls, rfl, hl, hle, h⟩
    rw [List.length_map] at hl
    refine ⟨_, rfl, .inl ⟨rfl, _, h.lst 1 rfl⟩, _, rfl, a, _, _, _, rfl, rfl, h.sql hS, a0, _, _, rfl, rfl, ⟨by decide, by decide⟩, _, rfl, l, _, rfl, .inl (h.lst 1 rfl), _, _, rfl, rfl, ?_⟩
    rw [List.length_map]
    refine ⟨_, _, rfl, rfl, (by omega), l, ls.map V.int, .int 1, n0 / 56 % ((ls.length : Int) + 1), rfl, rfl, h.get 1 rfl, (by rw [List.length_map]; omega), Int.emod_nonneg _ (by omega), (by rw [List.length_map]; have := Int.emod_lt_of_pos (n0 / 56) (show 0 < (ls.length : Int) + 1 by omega); omega), ?_⟩
    generalize (n0 / 56 % ((ls.length : Int) + 1)).toNat = jj
    have h := h.put (o' := .lst ((ls.map V.int).take jj ++ .int 1 :: (ls.map V.int).drop jj)) 1 rfl
    refine ⟨_, rfl, q _ l (ls.take jj ++ 1 :: ls.drop jj) ?_ ⟨?_, ?_, ?_, List.mem_append_right _ List.mem_cons_self⟩⟩
    · rw [List.map_append, List.map_cons, List.map_take, List.map_drop]; exact h.tl
    · rw [List.length_append, List.length_cons]; omega
    · rw [List.length_append, List.length_cons, List.length_take, List.length_drop]; omega
    · intro v hv
      rcases List.mem_append.mp hv with hv | hv
      · exact hle v (List.mem_of_mem_take hv)
      · rcases List.mem_cons.mp hv with rfl | hv
        · exact ⟨by decide, by decide⟩
        · exact hle v (List.mem_of_mem_drop hv)
end
end K16

namespace K16
open PySem L2 FM ST
theorem sum_le {l : List Int} {m : Int} (h : ∀ v ∈ l, 0 ≤ v ∧ v ≤ m) : 0 ≤ l.sum ∧ l.sum ≤ m * l.length := by
  induction l with
  | nil => exact ⟨by decide, by show (0 : Int) ≤ m * ((0 : Nat) : Int); omega⟩
  | cons a t ih =>
    have i := ih fun v hv => h v (List.mem_cons_of_mem _ hv)
    have j := h a List.mem_cons_self
    rw [List.sum_cons, List.length_cons]
    have e : m * ((t.length + 1 : Nat) : Int) = m * t.length + m := by rw [Int.natCast_add, Int.mul_add]; omega
    omega
theorem LensOk.sum {lens : List Int} (h : LensOk lens) : 0 ≤ lens.sum ∧ lens.sum ≤ 6 * 400 := by
  have := sum_le (m := 400) (l := lens) fun v hv => ⟨by have := h.le v hv; omega, (h.le v hv).2⟩
  have := h.l6
  omega
section
variable {P : Program} {w : World} {K : PySem.W.Frag} {mg : Str → Option Value} {base : Heap}
def spCells (K : PySem.W.Frag) : Sp := fun vs H Q _ => ∃ (a l : Addr) (ns lens : List Int), vs = [.ref a, .ref l] ∧ SqL K H a (ns.map V.int) ∧ 0 < ns.length ∧ SqL K H l (lens.map V.int) ∧ LensOk lens ∧ ∀ H' e cs, Hd H [(e, .lst (cs.map V.int))] H' → CellsOk lens cs → Q (.ref e) H'
theorem ok_cells (d : DefIn K mg "_law_cells_by" s_l_cells_by ["_law_script", "_law_lengths"]) (hlen : mg "len" = none) (hrg : mg "range" = none) (hsum : mg "sum" = none) (KB : Ok P w K mg base (CXe P w base) 1 "_law_kept_by" ["_law_cell"] spKB) (MX : Ok P w K mg base (CXe P w base) 1 "_law_mix" ["_law_cell", "_law_factor", "_law_prime"] spMix) :
    Ok P w K mg base CX0 2 "_law_cells_by" ["_law_script", "_law_lengths"] (spCells K) := by
  obtain ⟨g, fd, m, F, b⟩ := d
  refine ⟨g, fd, m, F.kp, b, F.ok sc_l_cells_by (fun vs H Q E ⟨_, _, _, _, e, _⟩ => by rw [e]; rfl) fun cdv A outer s H vs Q E hr h => ?_⟩
  obtain ⟨a, l, ns, lens, rfl, hS, hn, hL, ok, q⟩ := h
  have nd := sc_l_cells_by.nd
  have hr1 := hr
  have SL : (3000 : Nat) < sizeLine := by decide
  have sm := ok.sum
  refine ⟨_, (pss_cons (ps_set (i := 2) nd rfl (Or.inl rfl) (pe_lst pa_nil))
      (pss_cons (ps_for PassesOwn.never rfl (pi_range1 rfl hrg (pa_cons (pe_callB (call_sum rfl) (by rfl) hsum PyProof.Rows.boot_sum (pa_cons (pv 1) pa_nil)) pa_nil)) (pg_name (i := 3) nd rfl (Or.inl rfl)) (pss_one (ps_expr (pe_bm PySem.F.plainAttrs_list PySem.F.slot_list_append PySem.F.type_list_append mt_append (pv 2) (pa_cons (pe_ok KB hr1 (by rfl) passF (pa_cons (pe_ok MX hr1 (by rfl) passF (pa_cons (pe_op op_add (pe_ix ix_list (pv 0) (pe_op op_mod (pv 3) (pe_callB call_len_seq (by rfl) hlen PySem.boot_len (pa_cons (pv 0) pa_nil))) (fun _ _ => rfl)) (pe_op op_mul (pv 3) (pv 3))) (pa_cons pe_int (pa_cons pe_int pa_nil)))) pa_nil)) pa_nil)))))
      (pss_one (ps_ret (pv 2))))), ?_⟩
  refine ⟨(by show 0 ≤ sizeLine; decide), fun e ne => ?_⟩
  have h : Hd H [(e, .lst (([] : List Int).map V.int))] (upd H e (.lst [])) := Hd.base.new ne
  generalize upd H e (.lst []) = H1 at h ⊢
  refine ⟨_, rfl, l, lens, rfl, h.sql hL, _, rfl, (by omega), (by omega), ?_⟩
  obtain ⟨n, en⟩ : ∃ n : Nat, lens.sum = n := ⟨lens.sum.toNat, by omega⟩
  rw [en, Int.toNat_natCast]
  refine for_range (n := n) (fun i σ J => ∃ (u : Option V) (cs : List Int), σ = [some (.ref a), some (.ref l), some (.ref e), u] ∧ cs.length = i ∧ (∀ v ∈ cs, Kin v) ∧ Hd H [(e, .lst (cs.map V.int))] J) ⟨none, [], rfl, rfl, (fun v hv => nomatch hv), h⟩ ?_ ?_
  · clear h
    rintro i σ J hi ⟨u, cs, rfl, hc, hk, h⟩
    refine ⟨_, rfl, .inl ⟨rfl, _, h.lst 0 rfl⟩, _, rfl, _, rfl, _, rfl, a, _, rfl, .inl (h.sql hS), _, _, rfl, rfl, (by rw [List.length_map]; omega), ?_⟩
    rw [List.length_map]
    obtain ⟨j, hj, ej⟩ : ∃ j : Nat, j < ns.length ∧ (0 + (i : Int)) % (ns.length : Int) = j := ⟨((0 + (i : Int)) % (ns.length : Int)).toNat, by have := Int.emod_lt_of_pos (0 + (i : Int)) (show 0 < (ns.length : Int) by omega); have := Int.emod_nonneg (0 + (i : Int)) (show (ns.length : Int) ≠ 0 by omega); omega, by have := Int.emod_nonneg (0 + (i : Int)) (show (ns.length : Int) ≠ 0 by omega); omega⟩
    refine ⟨a, _, _, _, rfl, rfl, h.sql hS, at_int j hj ej, ?_⟩
    refine ⟨_, rfl, _, rfl, _, _, rfl, rfl, .inr ⟨by omega, by omega⟩, _, _, rfl, rfl, _, _, _, rfl, by decide, by decide, by decide, _, rfl, fun J1 s1 => ?_⟩
    have h := h.same s1
    generalize hv : keptBy _ = v
    have kv : Kin v := by rw [← hv]; exact keptBy_in _
    refine ⟨e, _, _, rfl, rfl, h.get 0 rfl, (by rw [List.length_map]; omega), ?_⟩
    have h := h.put (o' := .lst (cs.map V.int ++ [.int v])) 0 rfl
    refine ⟨_, cs ++ [v], rfl, by rw [List.length_append, hc]; rfl, fun x hx => ?_, ?_⟩
    · rcases List.mem_append.mp hx with hx | hx
      · exact hk x hx
      · cases List.mem_singleton.mp hx; exact kv
    · rw [List.map_append]; exact h
  · clear h
    rintro σ J ⟨u, cs, rfl, hc, hk, h⟩
    exact ⟨_, rfl, q _ e cs h ⟨by rw [hc]; exact en.symm, hk⟩⟩
end
end K16

namespace K16
open PySem L2 FM ST
section
variable {P : Program} {w : World} {K : PySem.W.Frag} {mg : Str → Option Value} {base : Heap}
/-! ### an element, by the law -/
def elA (fs : List F2.Fn) (k : Nat) (S : SpotD) (L : StepD) : Option Res := match passOf fs k S L with
  | .b true => none
  | .b false => some (F2.worth fs k S L.value)
  | .no e => some e
def spElL (P : Program) (w : World) (K : PySem.W.Frag) (mg : Str → Option Value) (base : Heap) (c : F2.Cs) (CN OU : Addr) (q : Scs) (M : Kd → Prop) (rm : Nat) : Sp := fun vs H Q _ => ∃ (x s : Addr) (S : SpotD) (fs : List F2.Fn) (k : Nat) (L : StepD), vs = [.ref x, .ref s] ∧ M L.kind ∧ F2.SpotAt c K H s S fs ∧ SpotOk S ∧ StepAt c q H L x ∧ StepW P w K mg base c CN OU rm fs k L ∧ StepF fs k S L ∧
  match elA fs k S L with
  | none => ∀ H', Same H H' → Q .non H'
  | some r => ∀ H' t, Hd H [(t, .tup (resV r))] H' → Q (.ref t) H'
theorem ok_elL {c : F2.Cs} {CN OU : Addr} {q : Scs} {M : Kd → Prop} {rm : Nat} (d : DefIn K mg "_law_element" s_l_element ["_law_step", "_law_spot"]) (G : StepsK K mg q M) (AS : Ok P w K mg base (CXe P w base) (rm + 1) "_law_asked" ["_law_form", "_law_spot"] (spAsked P w K mg base c CN OU rm)) :
    Ok P w K mg base (CXe P w base) (rm + 2) "_law_element" ["_law_step", "_law_spot"] (spElL P w K mg base c CN OU q M rm) := by
  obtain ⟨g, fd, m, F, b⟩ := d
  refine ⟨g, fd, m, F.kp, b, F.okE sc_l_element (fun vs H Q E ⟨_, _, _, _, _, _, e, _⟩ => by rw [e]; rfl) fun cdv A outer s H vs Q E hr h => ?_⟩
  obtain ⟨x, sp, S, fs, k, L, rfl, hM, hs, ho, hL, hW, hF, fin⟩ := h
  obtain ⟨dx, v, pa, t, hx, hv, ht, hp⟩ := hL.ex
  have g1 := G.c _ hM
  have nd := sc_l_element.nd
  have hr0 := hr
  refine ⟨_, (pss_cons (ps_if (pt_cmpR op_notN (pe_fld (pv 0) rfl) pe_non (nomark _)) (pss_cons (ps_set (i := 2) nd rfl (Or.inl rfl) (pe_ok AS hr0 (by rfl) passF (pa_cons (pe_fld (pv 0) rfl) (pa_cons (pv 1) pa_nil))))
      (pss_cons (ps_if (pt_cmpR op_ne (pe_ix ix_tup (pv 2) pe_int (fun _ _ => rfl)) pe_str (nomark _)) (pss_one (ps_ret (pv 2))) pss_nil)
      (pss_one (ps_if (pt_cmpR op_eq (pe_ix ix_tup (pv 2) pe_int (fun _ _ => rfl)) pe_int (nomark _)) (pss_one (ps_ret pe_non)) pss_nil)))) pss_nil)
      (pss_one (ps_ret (pe_ok AS hr0 (by rfl) passF (pa_cons (pe_fld (pv 0) rfl) (pa_cons (pv 1) pa_nil)))))), ?_⟩
  refine ⟨_, rfl, x, _, dx, _, t, rfl, hx, g1.cl, g1.n2, fld_test, rfl, _, rfl, ?_⟩
  have vq : ∀ (u : Option V) (H1 : Hp), Same H H1 → passOf fs k S L = .b false → tRet (tCall (spAsked P w K mg base c CN OU rm) [] E0 (tCons (tFld K (tVar 0) "value") (tCons (tVar 1) tNil))) { nx := fun _ H' => Q .non H', rt := Q } [some (.ref x), some (.ref sp), u] H1 := fun u H1 s1 hp =>
    ⟨_, rfl, x, _, dx, _, .ref v, rfl, s1 _ _ hx, g1.cl, g1.n1, fld_value, _, rfl, v, sp, L.value, S, fs, k, rfl, hv.same s1, hW.v, hs.same s1, ho, hF.v, fun H2 t2 h2 => by
      have q := fin
      unfold elA at q
      rw [hp] at q
      exact q H2 t2 (h2.weak s1)⟩
  cases e : L.test with
  | none =>
    rw [e] at ht
    have ht : t = .non := ht
    subst ht
    exact iteF (vq none H (Same.refl _) (by unfold passOf; rw [e]))
  | some T =>
    rw [e] at ht
    obtain ⟨u, rfl, hu⟩ := ht
    refine iteT ?_
    refine ⟨_, rfl, x, _, dx, _, .ref u, rfl, hx, g1.cl, g1.n2, fld_test, _, rfl, u, sp, T, S, fs, k, rfl, hu, hW.t T e, hs, ho, hF.t T e, fun H1 t1 h1 => ?_⟩
    cases z : F2.worth fs k S T with
    | nought =>
      rw [z] at h1
      have ps : passOf fs k S L = .no .nought := by simp only [passOf, e, z]
      refine ⟨_, rfl, t1, _, 0, .str "nought", rfl, rfl, h1.tup 0 rfl, rfl, rfl, _, rfl, iteT ?_⟩
      unfold elA at fin
      rw [ps] at fin
      exact ⟨_, rfl, fin _ _ h1⟩
    | outside =>
      rw [z] at h1
      have ps : passOf fs k S L = .no .outside := by simp only [passOf, e, z]
      refine ⟨_, rfl, t1, _, 0, .str "outside", rfl, rfl, h1.tup 0 rfl, rfl, rfl, _, rfl, iteT ?_⟩
      unfold elA at fin
      rw [ps] at fin
      exact ⟨_, rfl, fin _ _ h1⟩
    | ok a =>
      rw [z] at h1
      have ps : passOf fs k S L = .b (decide (a = 0)) := by simp only [passOf, e, z]
      refine ⟨_, rfl, t1, _, 0, .str "", rfl, rfl, h1.tup 0 rfl, rfl, rfl, _, rfl, iteF ?_⟩
      refine ⟨_, rfl, t1, _, 1, .int a, rfl, rfl, h1.tup 0 rfl, rfl, rfl, _, rfl, ?_⟩
      rw [intEq]
      refine ite2 (fun y => ?_) (fun y => ?_)
      · have y : a = 0 := by simpa using y
        unfold elA at fin
        rw [ps, decide_eq_true y] at fin
        exact fin _ h1.sm
      · have y : ¬ a = 0 := by simpa using y
        exact vq _ _ h1.sm (by rw [ps, decide_eq_false y])
end
end K16

namespace L2
open PySem PySem.Spec PyProof.Rows PyProof
section
variable {X : Cx}
/-- l.index(y), of flat things: the first place at which it stands -/
def rIndexV : V → List V → Hp → VK → Prop := fun x vs H Q => ∃ l xs y j, x = .ref l ∧ vs = [y] ∧ H l = some (.lst xs) ∧ flatV y = true ∧ xs.all flatV = true ∧ xs.length < 1000 ∧ (∃ z, xs[j]? = some z ∧ eqV z y = true) ∧ (∀ m z, m < j → xs[m]? = some z → eqV z y = false) ∧ Q (.int (j : Nat)) H
theorem vals_at : ∀ {xs : List V} {us : List Value}, Vals xs us → ∀ {i : Nat} {u : Value}, us[i]? = some u → ∃ z, xs[i]? = some z ∧ RelV z u
  | _, _, .nil, i, u, e => by cases e
  | y :: xs, _, .cons r t, 0, u, e => by cases (show some _ = some u from e); exact ⟨y, rfl, r⟩
  | y :: xs, _, .cons r t, i + 1, u, e => vals_at t e
theorem all_at {xs : List V} (h : xs.all flatV = true) {i : Nat} {z : V} (e : xs[i]? = some z) : flatV z = true := List.all_eq_true.mp h z (List.mem_of_getElem? e)
theorem mt_indexV : MtM X "list.index" rIndexV := by
  intro pins s σ H x vs v us Q I rx rv h
  obtain ⟨l, xs, y, j, rfl, rfl, hH, fy, fx, hz, ⟨z, ez, hz1⟩, hno, q⟩ := h
  cases rx
  obtain ⟨u, rfl, ru⟩ := vals1 rv
  obtain ⟨_, its, n, r, hl, e⟩ := I.lstM hH
  have le : its.length = xs.length := r.length.symm
  have jl : j < xs.length := (List.getElem?_eq_some_iff.mp ez).1
  have at1 : ∀ (m : Nat) (hm : m < its.toArray.size), ∃ z, xs[m]? = some z ∧ eqU y its.toArray[m] = eqV z y := fun m hm => by
    have hm' : m < its.length := by simpa using hm
    obtain ⟨z, a, b⟩ := vals_at r (i := m) (u := its[m]) (List.getElem?_eq_getElem hm')
    exact ⟨z, a, by simpa using eqU_of (x := y) b (all_at fx a)⟩
  refine call_meets F.slot_list_index ⟨_, e, rfl⟩ F.entry_list_index (F.args_list_index_2 _ _) (SeqAt.list_indexAt l its.toArray n _ _ u (eqU y) j (by simp; omega) (by omega) ?_ ?_) ⟨e, fun w hw => mem_eqAt ru fy r fx w (by simpa using hw), ⟨.int j, H, I.tok _, ⟨_, rfl⟩, q⟩⟩
  · obtain ⟨z', a, b⟩ := at1 j (by simp; omega)
    rw [b]
    rw [a] at ez
    cases ez
    exact hz1
  · intro m hm hlt
    obtain ⟨z', a, b⟩ := at1 m hm
    rw [b]
    exact hno m z' hlt a
end
end L2

namespace L2
open PySem PySem.Spec PyProof.Rows PyProof
section
variable {X : Cx}
/-- range(j) as a thing of its own -/
theorem call_rangeV : CallR X (.type "range") (fun xs H Q => ∃ j : Int, xs = [.int j] ∧ ∀ l, H l = none → Q (.ref l) (upd H l (.rng 0 j))) := by
  intro pins s σ H xs us Q I r h
  obtain ⟨j, rfl, q⟩ := h
  obtain ⟨u, rfl, rx⟩ := vals1 r
  obtain ⟨t, rfl⟩ := rx
  refine call_range_1 ?_
  exact ⟨.ref s.heap.objs.size, _, I.laid (fun b o e => Heap.get?_push_of_some _ e) (Nat.le_refl _) (show ObjOk X.prog X.w _ _ _ (.rng 0 j) from ⟨_, _, _, Heap.get?_push_size _ rfl⟩), rfl, q _ (I.hok.fresh (Nat.le_refl _))⟩
/-- 0, 1, .. : n of them -/
def upto (n : Nat) : List Int := (List.range n).map Int.ofNat
theorem vals_upto : ∀ (n : Nat) (us : List Value), us.length = n → (∀ (i : Nat) (v : Value), us[i]? = some v → ∃ t, v = Value.int (0 + (i : Nat) * 1) t) → Vals ((upto n).map V.int) us := by
  intro n
  induction n with
  | zero => intro us hl _; cases us with
    | nil => exact .nil
    | cons _ _ => cases hl
  | succ n ih =>
    intro us hl h
    obtain ⟨ini, last, rfl⟩ : ∃ ini last, us = ini ++ [last] := ⟨us.dropLast, us.getLast (by intro e; rw [e] at hl; cases hl), (List.dropLast_concat_getLast _).symm⟩
    have hi : ini.length = n := by rw [List.length_append] at hl; simpa using hl
    have e : upto (n + 1) = upto n ++ [(n : Int)] := by unfold upto; rw [List.range_succ, List.map_append]; rfl
    rw [e, List.map_append]
    refine (ih ini hi fun i v hv => ?_).append (.cons ?_ .nil)
    · have : i < ini.length := (List.getElem?_eq_some_iff.mp hv).1
      exact h i v (by rw [List.getElem?_append_left this]; exact hv)
    · obtain ⟨t, rfl⟩ := h n last (by rw [List.getElem?_append_right (by omega), hi, Nat.sub_self]; rfl)
      exact ⟨t, by show Value.int (0 + (n : Int) * 1) t = Value.int n t; congr 1; omega⟩
theorem call_list_rng (hc : X.calm = true) : CallR X (.type "list") (fun xs H Q => ∃ (p : Addr) (n : Nat), xs = [.ref p] ∧ H p = some (.rng 0 n) ∧ n ≤ 1000 ∧ ∀ l, H l = none → Q (.ref l) (upd H l (.lst ((upto n).map V.int)))) := by
  intro pins s σ H xs us Q I r h
  obtain ⟨p, n, rfl, hp, hn, q⟩ := h
  obtain ⟨u, rfl, rx⟩ := vals1 r
  cases rx
  obtain ⟨t, u, v, e⟩ := I.hok p _ hp
  have hs : Builtin.Range.small 0 (n : Int) 1 = true := small_one (by omega) (by omega) (by omega) (by omega)
  have hz : Builtin.Range.rangeSize 0 (n : Int) 1 = n := by rw [rangeSize_one]; split <;> omega
  have SL : (1000 : Nat) ≤ sizeLine := by decide
  refine call_list_range (I.ok.hd hc) e hs hz (by omega) fun h' tk acc c' hk hS ha => ?_
  refine ⟨.ref s.heap.objs.size, _, I.laid (t' := tk) hk (Nat.le_refl _) (show ObjOk X.prog X.w _ h' _ (.lst ((upto n).map V.int)) from ⟨?_, acc.toList, c', vals_upto n acc.toList ?_ ?_, ?_⟩), rfl, q _ (I.hok.fresh (Nat.le_refl _))⟩
  · rw [List.length_map]; unfold upto; rw [List.length_map, List.length_range]; omega
  · simpa using ha.1
  · intro i v hv
    exact ha.2 i v (by simpa using hv)
  · simpa using hS
end
end L2

namespace L2
open PySem PySem.Spec PyProof.Rows
theorem op_inK {X : Cx} {K : PySem.W.Frag} (h : X.K = K) : OpR X (compareOp .In) (rIn K false) := h ▸ op_in_seq
end L2
namespace K16
open PySem L2 FM ST
section
variable {P : Program} {w : World} {K : PySem.W.Frag} {mg : Str → Option Value} {base : Heap}
def spI_Fold (C : Addr) : Sp := fun vs H Q _ => ∃ (x dx : Addr) (u0 u1 u2 u3 u4 : V), vs = [.ref x, u0, u1, u2, u3, u4] ∧ H x = some (.ins C dx []) ∧ ∀ H', (∀ b o, b ≠ x → H b = some o → H' b = some o) → H' x = some (.ins C dx [("target", u0), ("fold", u1), ("value", u2), ("many", u3), ("test", u4)]) → Q .non H'
theorem okN_Fold {C : Addr} (d : InitN K C "Fold.__init__" s_Fold_init ["self", "target", "fold", "value", "many", "test"]) (cl : Cls K C) (n0 : NoAttr K C "target") (n1 : NoAttr K C "fold") (n2 : NoAttr K C "value") (n3 : NoAttr K C "many") (n4 : NoAttr K C "test") : OkN P w K mg base (CXe P w base) 1 C ["self", "target", "fold", "value", "many", "test"] (spI_Fold C) := by
  obtain ⟨f, fd, m, F, bd, bn⟩ := d
  refine ⟨f, fd, m, bd, bn, F.okE sc_Fold_init (fun vs H Q E ⟨_, _, _, _, _, _, _, e, _⟩ => by rw [e]; rfl) fun cdv A outer s H vs Q E hr h => ?_⟩
  obtain ⟨x, dx, u0, u1, u2, u3, u4, rfl, hx, k⟩ := h
  refine ⟨_, (pss_cons (ps_fld (pv 0) (pv 1) rfl) (pss_cons (ps_fld (pv 0) (pv 2) rfl) (pss_cons (ps_fld (pv 0) (pv 3) rfl) (pss_cons (ps_fld (pv 0) (pv 4) rfl) (pss_one (ps_fld (pv 0) (pv 5) rfl)))))), ?_⟩
  refine ⟨_, rfl, _, rfl, x, C, dx, [], rfl, hx, cl, n0, (by show 0 < 1000; decide), ?_⟩
  refine ⟨_, rfl, _, rfl, x, C, dx, [("target", u0)], rfl, upd_same, cl, n1, (by show 1 < 1000; decide), ?_⟩
  refine ⟨_, rfl, _, rfl, x, C, dx, [("target", u0), ("fold", u1)], rfl, upd_same, cl, n2, (by show 2 < 1000; decide), ?_⟩
  refine ⟨_, rfl, _, rfl, x, C, dx, [("target", u0), ("fold", u1), ("value", u2)], rfl, upd_same, cl, n3, (by show 3 < 1000; decide), ?_⟩
  refine ⟨_, rfl, _, rfl, x, C, dx, [("target", u0), ("fold", u1), ("value", u2), ("many", u3)], rfl, upd_same, cl, n4, (by show 4 < 1000; decide), ?_⟩
  exact k _ (fun b o nb z => by
    rw [upd_ne nb, upd_ne nb, upd_ne nb, upd_ne nb, upd_ne nb]
    exact z) upd_same
def spI_Running (C : Addr) : Sp := fun vs H Q _ => ∃ (x dx : Addr) (u0 u1 u2 u3 : V), vs = [.ref x, u0, u1, u2, u3] ∧ H x = some (.ins C dx []) ∧ ∀ H', (∀ b o, b ≠ x → H b = some o → H' b = some o) → H' x = some (.ins C dx [("target", u0), ("fold", u1), ("value", u2), ("test", u3)]) → Q .non H'
theorem okN_Running {C : Addr} (d : InitN K C "Running.__init__" s_Running_init ["self", "target", "fold", "value", "test"]) (cl : Cls K C) (n0 : NoAttr K C "target") (n1 : NoAttr K C "fold") (n2 : NoAttr K C "value") (n3 : NoAttr K C "test") : OkN P w K mg base (CXe P w base) 1 C ["self", "target", "fold", "value", "test"] (spI_Running C) := by
  obtain ⟨f, fd, m, F, bd, bn⟩ := d
  refine ⟨f, fd, m, bd, bn, F.okE sc_Running_init (fun vs H Q E ⟨_, _, _, _, _, _, e, _⟩ => by rw [e]; rfl) fun cdv A outer s H vs Q E hr h => ?_⟩
  obtain ⟨x, dx, u0, u1, u2, u3, rfl, hx, k⟩ := h
  refine ⟨_, (pss_cons (ps_fld (pv 0) (pv 1) rfl) (pss_cons (ps_fld (pv 0) (pv 2) rfl) (pss_cons (ps_fld (pv 0) (pv 3) rfl) (pss_one (ps_fld (pv 0) (pv 4) rfl))))), ?_⟩
  refine ⟨_, rfl, _, rfl, x, C, dx, [], rfl, hx, cl, n0, (by show 0 < 1000; decide), ?_⟩
  refine ⟨_, rfl, _, rfl, x, C, dx, [("target", u0)], rfl, upd_same, cl, n1, (by show 1 < 1000; decide), ?_⟩
  refine ⟨_, rfl, _, rfl, x, C, dx, [("target", u0), ("fold", u1)], rfl, upd_same, cl, n2, (by show 2 < 1000; decide), ?_⟩
  refine ⟨_, rfl, _, rfl, x, C, dx, [("target", u0), ("fold", u1), ("value", u2)], rfl, upd_same, cl, n3, (by show 3 < 1000; decide), ?_⟩
  exact k _ (fun b o nb z => by
    rw [upd_ne nb, upd_ne nb, upd_ne nb, upd_ne nb]
    exact z) upd_same
/-! ### the fold, the target, the many -/
def foldBy (cc : Int) : Str := ST.folds.getD (cc * 41358 % 2147483543 % 9).toNat ""
theorem fold_at9 {i : Nat} (h : i < 9) : (ST.folds.map V.str)[i]? = some (.str (ST.folds.getD i "")) ∧ ST.folds.getD i "" ∈ ST.folds := by
  refine ⟨?_, ?_⟩
  · rw [List.getElem?_map, List.getD_eq_getElem?_getD, List.getElem?_eq_getElem (show i < ST.folds.length from h)]; rfl
  · rw [List.getD_eq_getElem?_getD, List.getElem?_eq_getElem (show i < ST.folds.length from h)]; exact List.getElem_mem _
theorem foldBy_in (cc : Int) : foldBy cc ∈ ST.folds := by
  have h0 := Int.emod_nonneg (cc * 41358 % 2147483543) (show (9 : Int) ≠ 0 by decide)
  have h1 := Int.emod_lt_of_pos (cc * 41358 % 2147483543) (show (0 : Int) < 9 by decide)
  unfold foldBy
  generalize cc * 41358 % 2147483543 % 9 = z at h0 h1 ⊢
  exact (fold_at9 (by omega)).2
theorem at9 (z : Int) (h0 : 0 ≤ z) (h1 : z < 9) : atI (ST.folds.map V.str) z = some (.str (ST.folds.getD z.toNat "")) := by
  obtain ⟨j, rfl⟩ : ∃ j : Nat, z = j := ⟨z.toNat, by omega⟩
  exact atI_nat (fold_at9 (by omega)).1
theorem foldBy_at (cc : Int) : atI (ST.folds.map V.str) (cc * 41358 % 2147483543 % 9) = some (.str (foldBy cc)) :=
  at9 _ (Int.emod_nonneg _ (by decide)) (Int.emod_lt_of_pos _ (by decide))
def spFoldBy : Sp := fun vs H Q _ => ∃ cc : Int, vs = [.int cc] ∧ ∀ H', Same H H' → Q (.str (foldBy cc)) H'
theorem ok_foldBy (d : DefIn K mg "_law_fold_by" s_l_fold_by ["_law_cell"]) (MX : Ok P w K mg base (CXe P w base) 1 "_law_mix" ["_law_cell", "_law_factor", "_law_prime"] spMix) : Ok P w K mg base CX0 2 "_law_fold_by" ["_law_cell"] spFoldBy := by
  obtain ⟨g, fd, m, F, b⟩ := d
  refine ⟨g, fd, m, F.kp, b, F.okB sc_l_fold_by (fun vs H Q E ⟨_, e, _⟩ => by rw [e]; rfl) fun cdv A outer s H vs Q E hr h => ?_⟩
  obtain ⟨cc, rfl, k⟩ := h
  have nd := sc_l_fold_by.nd
  have hr1 := hr
  refine ⟨_, (pb_cons (pw_ks (i := 1) nd rfl (Or.inl rfl) rfl)
      (pb_one (PW1.mk (ps_ret (pe_ix ix_list (pv 1) (pe_op op_mod (pe_ok MX hr1 (by rfl) passF (pa_cons (pv 0) (pa_cons pe_int (pa_cons pe_int pa_nil)))) pe_int) (fun _ _ => rfl)))))), ?_⟩
  refine ⟨(by show 9 ≤ sizeLine; decide), fun l nl => ?_⟩
  have h0 : Hd H [(l, .lst (ST.folds.map V.str))] (upd H l (.lst (ST.folds.map V.str))) := Hd.base.new nl
  revert h0
  show Hd H [(l, .lst (ST.folds.map V.str))] (upd H l (.lst [.str "sum", .str "product", .str "least", .str "most", .str "both", .str "either", .str "odd", .str "chain", .str "capped"])) → _
  generalize upd H l (.lst [.str "sum", .str "product", .str "least", .str "most", .str "both", .str "either", .str "odd", .str "chain", .str "capped"]) = H1
  intro h
  exact ⟨_, rfl, _, rfl, _, _, _, rfl, by decide, by decide, by decide, _, _, rfl, rfl, (by show (0 : Int) < 9; decide), l, _, _, .str (foldBy cc), rfl, rfl, h.lst 0 rfl, foldBy_at cc, k _ h.sm⟩
def onesTo (lens : List Int) (n : Nat) : List Int := ((List.range n).filter fun i => decide (lens.getD i 0 = 1)).map Int.ofNat
theorem ones_mem {lens : List Int} {n : Nat} {v : Int} (h : v ∈ onesTo lens n) : 0 ≤ v ∧ v.toNat < n ∧ lens.getD v.toNat 0 = 1 := by
  obtain ⟨i, hi, rfl⟩ := List.mem_map.mp h
  obtain ⟨a, b⟩ := List.mem_filter.mp hi
  exact ⟨by show 0 ≤ (i : Int); omega, List.mem_range.mp a, by simpa using b⟩
theorem ones_pos {lens : List Int} (h : (1 : Int) ∈ lens) : 0 < (onesTo lens lens.length).length := by
  obtain ⟨i, hi, e⟩ := List.getElem_of_mem h
  have : (i : Int) ∈ onesTo lens lens.length := List.mem_map.mpr ⟨i, List.mem_filter.mpr ⟨List.mem_range.mpr hi, by simp [List.getD_eq_getElem?_getD, hi, e]⟩, rfl⟩
  exact List.length_pos_of_mem this
theorem ones_le {lens : List Int} {n : Nat} : (onesTo lens n).length ≤ n := by
  unfold onesTo
  rw [List.length_map]
  exact Nat.le_trans (List.length_filter_le _ _) (by rw [List.length_range]; exact Nat.le_refl _)
def tgtBy (cc : Int) (lens : List Int) : Int := if cc % 2 = 0 then (onesTo lens lens.length).getD (cc * 48271 % 2147483647 % (lens.length : Int) % ((onesTo lens lens.length).length : Int)).toNat 0 else cc * 48271 % 2147483647 % (lens.length : Int)
theorem tgtBy_in {cc : Int} {lens : List Int} (ok : LensOk lens) : 0 ≤ tgtBy cc lens ∧ (tgtBy cc lens).toNat < lens.length ∧ (cc % 2 = 0 → lens.getD (tgtBy cc lens).toNat 0 = 1) := by
  have l1 := ok.l1
  have o1 := ones_pos ok.on
  unfold tgtBy
  by_cases z : cc % 2 = 0
  · rw [if_pos z]
    have i0 := Int.emod_nonneg (cc * 48271 % 2147483647 % (lens.length : Int)) (show ((onesTo lens lens.length).length : Int) ≠ 0 by omega)
    have i1 := Int.emod_lt_of_pos (cc * 48271 % 2147483647 % (lens.length : Int)) (show (0 : Int) < ((onesTo lens lens.length).length : Int) by omega)
    have m := ones_mem (L2.getD_mem (ns := onesTo lens lens.length) (i := (cc * 48271 % 2147483647 % (lens.length : Int) % ((onesTo lens lens.length).length : Int)).toNat) (by omega))
    exact ⟨m.1, m.2.1, fun _ => m.2.2⟩
  · rw [if_neg z]
    have i0 := Int.emod_nonneg (cc * 48271 % 2147483647) (show (lens.length : Int) ≠ 0 by omega)
    have i1 := Int.emod_lt_of_pos (cc * 48271 % 2147483647) (show (0 : Int) < (lens.length : Int) by omega)
    exact ⟨i0, by omega, fun y => absurd y z⟩
def spTgtBy (K : PySem.W.Frag) : Sp := fun vs H Q _ => ∃ (la : Addr) (cc : Int) (lens : List Int), vs = [.int cc, .ref la] ∧ SqL K H la (lens.map V.int) ∧ LensOk lens ∧ ∀ H', Same H H' → Q (.int (tgtBy cc lens)) H'
theorem ok_tgtBy (d : DefIn K mg "_law_target_by" s_l_target_by ["_law_cell", "_law_lengths"]) (hlen : mg "len" = none) (hrg : mg "range" = none) (MX : Ok P w K mg base (CXe P w base) 1 "_law_mix" ["_law_cell", "_law_factor", "_law_prime"] spMix) : Ok P w K mg base CX0 2 "_law_target_by" ["_law_cell", "_law_lengths"] (spTgtBy K) := by
  obtain ⟨g, fd, m, F, b⟩ := d
  refine ⟨g, fd, m, F.kp, b, F.ok sc_l_target_by (fun vs H Q E ⟨_, _, _, e, _⟩ => by rw [e]; rfl) fun cdv A outer s H vs Q E hr h => ?_⟩
  obtain ⟨la, cc, lens, rfl, hL, ok, k⟩ := h
  have nd := sc_l_target_by.nd
  have hr1 := hr
  have l1 := ok.l1
  have l6 := ok.l6
  have SL : (600 : Nat) < sizeLine := by decide
  refine ⟨_, (pss_cons (ps_set (i := 2) nd rfl (Or.inl rfl) (pe_op op_mod (pe_ok MX hr1 (by rfl) passF (pa_cons (pv 0) (pa_cons pe_int (pa_cons pe_int pa_nil)))) (pe_callB call_len_seq (by rfl) hlen PySem.boot_len (pa_cons (pv 1) pa_nil))))
      (pss_cons (ps_mid (ps_if (pt_cmpR op_eq (pe_op op_mod (pv 0) pe_int) pe_int (nomark _)) (pss_cons (ps_compF (i := 3) ["_law_row", "_law_lengths"] [none, some 1] rfl rfl rfl (pi_range1 rfl hrg (pa_cons (pe_callB call_len_seq (by rfl) hlen PySem.boot_len (pa_cons (pv 1) pa_nil)) pa_nil)) (fun s3 H3 fp => ⟨pg_name (i := 0) (show ((["_law_row", "_law_lengths"] : List Str)).Nodup by decide +kernel) rfl (Or.inl rfl), (pt_cmpR op_eq (pe_ix (ix_listK (K := K) rfl) (pv 1) (pv 0) (fun _ _ => rfl)) pe_int (nomark _)), (pv 0)⟩) nd rfl (Or.inl rfl))
      (pss_one (ps_set (i := 2) nd rfl (Or.inl rfl) (pe_ix ix_list (pv 3) (pe_op op_mod (pv 2) (pe_callB call_len_seq (by rfl) hlen PySem.boot_len (pa_cons (pv 3) pa_nil))) (fun _ _ => rfl))))) pss_nil))
      (pss_one (ps_ret (pv 2))))), ?_⟩
  refine ⟨_, rfl, _, _, _, rfl, by decide, by decide, by decide, _, rfl, la, _, rfl, .inl hL, _, _, rfl, rfl, (by rw [List.length_map]; omega), ?_⟩
  rw [List.length_map]
  refine ⟨fun σ' H' => ∃ u3, σ' = [some (.int cc), some (.ref la), some (.int (tgtBy cc lens)), u3, none] ∧ Same H H', ?_, ?_⟩
  · refine ⟨_, rfl, _, _, rfl, rfl, (by show (0 : Int) < 2; decide), rfl, _, rfl, ?_⟩
    rw [intEq]
    refine ite2 (fun z => ?_) (fun z => ?_)
    · have z : cc % 2 = 0 := by simpa using z
      refine ⟨_, rfl, la, _, rfl, .inl hL, _, rfl, (by rw [List.length_map]; omega), (by rw [List.length_map]; omega), ?_⟩
      rw [List.length_map, Int.toNat_natCast]
      refine ⟨_, rfl, fun D nD => ?_⟩
      have h : Hd H [(D, .lst ((onesTo lens 0).map V.int))] (upd H D (.lst [])) := Hd.base.new nD
      refine compF_range (n := lens.length) (fun i σ J => ∃ (u : Option V), σ = [u, some (.ref la)] ∧ Hd H [(D, .lst ((onesTo lens i).map V.int))] J) ⟨none, rfl, h⟩ ?_ ?_
      · clear h
        rintro i σ J hi ⟨u, rfl, h⟩
        have es : onesTo lens (i + 1) = onesTo lens i ++ (if lens.getD i 0 = 1 then [(i : Int)] else []) := by
          unfold onesTo
          rw [List.range_succ, List.filter_append, List.map_append]
          congr 1
          by_cases y : lens.getD i 0 = 1
          · rw [if_pos y, List.filter_cons_of_pos (by simpa using y)]; rfl
          · rw [if_neg y, List.filter_cons_of_neg (by simpa using y)]; rfl
        refine ⟨_, rfl, _, rfl, la, _, _, _, rfl, rfl, h.sql hL, at_int i hi (by omega), rfl, _, rfl, ?_⟩
        rw [intEq]
        refine ite2 (fun y => ?_) (fun y => ?_)
        · have y : lens.getD i 0 = 1 := by simpa using y
          refine ⟨_, rfl, _, h.get 0 rfl, (by rw [List.length_map]; have := ones_le (lens := lens) (n := i); omega), _, rfl, ?_⟩
          rw [es, if_pos y, List.map_append]
          have e0 : (0 + (i : Int)) = (i : Int) := by omega
          rw [e0]
          exact h.put 0 rfl
        · have y : ¬ lens.getD i 0 = 1 := by simpa using y
          refine ⟨_, rfl, ?_⟩
          rw [es, if_neg y, List.append_nil]
          exact h
      clear h
      rintro σ J ⟨u, rfl, h⟩
      have o1 := ones_pos ok.on
      have i0 := Int.emod_nonneg (cc * 48271 % 2147483647 % (lens.length : Int)) (show ((onesTo lens lens.length).length : Int) ≠ 0 by omega)
      have i1 := Int.emod_lt_of_pos (cc * 48271 % 2147483647 % (lens.length : Int)) (show (0 : Int) < ((onesTo lens lens.length).length : Int) by omega)
      refine ⟨_, rfl, _, rfl, _, rfl, D, _, rfl, .inl (h.lst 0 rfl), _, _, rfl, rfl, (by rw [List.length_map]; omega), D, _, _, _, rfl, rfl, h.lst 0 rfl, at_int (cc * 48271 % 2147483647 % (lens.length : Int) % ((onesTo lens lens.length).length : Int)).toNat (by omega) (by rw [List.length_map]; omega), some (.ref D), ?_, h.sm⟩
      unfold tgtBy
      rw [if_pos z]
      rfl
    · have z : ¬ cc % 2 = 0 := by simpa using z
      refine ⟨none, ?_, Same.refl _⟩
      unfold tgtBy
      rw [if_neg z]
      rfl
  rintro σ' J ⟨u3, rfl, sJ⟩
  exact ⟨_, rfl, k _ sJ⟩
def manyBy (cc : Int) (lens : List Int) : Int := if cc % 2 = 1 then lens.getD (tgtBy cc lens).toNat 0 else if cc / 2 % 4 = 0 then 1 + cc / 8 % 7 else lens.getD (cc * 40692 % 2147483579 % (lens.length : Int)).toNat 0
theorem manyBy_in {cc : Int} {lens : List Int} (ok : LensOk lens) : 1 ≤ manyBy cc lens ∧ manyBy cc lens ≤ 400 := by
  have l1 := ok.l1
  have t := tgtBy_in (cc := cc) ok
  unfold manyBy
  split
  · have := ok.le _ (L2.getD_mem t.2.1); omega
  split
  · omega
  · have i0 := Int.emod_nonneg (cc * 40692 % 2147483579) (show (lens.length : Int) ≠ 0 by omega)
    have i1 := Int.emod_lt_of_pos (cc * 40692 % 2147483579) (show (0 : Int) < (lens.length : Int) by omega)
    have := ok.le _ (L2.getD_mem (show (cc * 40692 % 2147483579 % (lens.length : Int)).toNat < lens.length by omega))
    omega
def spManyBy (K : PySem.W.Frag) : Sp := fun vs H Q _ => ∃ (la : Addr) (cc : Int) (lens : List Int), vs = [.int cc, .ref la] ∧ SqL K H la (lens.map V.int) ∧ LensOk lens ∧ ∀ H', Same H H' → Q (.int (manyBy cc lens)) H'
theorem ok_manyBy (d : DefIn K mg "_law_many_by" s_l_many_by ["_law_cell", "_law_lengths"]) (hlen : mg "len" = none) (MX : Ok P w K mg base (CXe P w base) 1 "_law_mix" ["_law_cell", "_law_factor", "_law_prime"] spMix) (TB : Ok P w K mg base CX0 2 "_law_target_by" ["_law_cell", "_law_lengths"] (spTgtBy K)) : Ok P w K mg base CX0 3 "_law_many_by" ["_law_cell", "_law_lengths"] (spManyBy K) := by
  obtain ⟨g, fd, m, F, b⟩ := d
  refine ⟨g, fd, m, F.kp, b, F.ok sc_l_many_by (fun vs H Q E ⟨_, _, _, e, _⟩ => by rw [e]; rfl) fun cdv A outer s H vs Q E hr h => ?_⟩
  obtain ⟨la, cc, lens, rfl, hL, ok, k⟩ := h
  have hr2 := hr
  have hr1 : Room 1 _ := hr.mono (by decide)
  have l1 := ok.l1
  have t := tgtBy_in (cc := cc) ok
  refine ⟨_, (pss_cons (ps_if (pt_cmpR op_eq (pe_op op_mod (pv 0) pe_int) pe_int (nomark _)) (pss_one (ps_ret (pe_ix ix_list (pv 1) (pe_ok TB hr2 (by rfl) pass0 (pa_cons (pv 0) (pa_cons (pv 1) pa_nil))) (fun _ _ => rfl)))) pss_nil)
      (pss_cons (ps_if (pt_cmpR op_eq (pe_op op_mod (pe_op op_fdiv (pv 0) pe_int) pe_int) pe_int (nomark _)) (pss_one (ps_ret (pe_op op_add pe_int (pe_op op_mod (pe_op op_fdiv (pv 0) pe_int) pe_int)))) pss_nil)
      (pss_one (ps_ret (pe_ix ix_list (pv 1) (pe_op op_mod (pe_ok MX hr1 (by rfl) passF (pa_cons (pv 0) (pa_cons pe_int (pa_cons pe_int pa_nil)))) (pe_callB call_len_seq (by rfl) hlen PySem.boot_len (pa_cons (pv 1) pa_nil))) (fun _ _ => rfl)))))), ?_⟩
  unfold manyBy at k
  refine ⟨_, rfl, _, _, rfl, rfl, (by show (0 : Int) < 2; decide), rfl, _, rfl, ?_⟩
  rw [intEq]
  refine ite2 (fun z => ?_) (fun z => ?_)
  · have z : cc % 2 = 1 := by simpa using z
    rw [if_pos z] at k
    exact ⟨_, rfl, _, rfl, _, rfl, la, cc, lens, rfl, hL, ok, fun H1 s1 => ⟨la, _, _, _, rfl, rfl, sql_same hL s1, at_int (tgtBy cc lens).toNat t.2.1 (by omega), k _ s1⟩⟩
  have z : ¬ cc % 2 = 1 := by simpa using z
  rw [if_neg z] at k
  refine ⟨_, rfl, _, _, rfl, rfl, ⟨by decide, by decide⟩, _, _, rfl, rfl, (by show (0 : Int) < 4; decide), rfl, _, rfl, ?_⟩
  rw [intEq]
  refine ite2 (fun y => ?_) (fun y => ?_)
  · have y : cc / 2 % 4 = 0 := by simpa using y
    rw [if_pos y] at k
    exact ⟨_, rfl, _, _, rfl, rfl, ⟨by decide, by decide⟩, _, _, rfl, rfl, (by show (0 : Int) < 7; decide), _, _, rfl, rfl, k _ (Same.refl _)⟩
  · have y : ¬ cc / 2 % 4 = 0 := by simpa using y
    rw [if_neg y] at k
    have i0 := Int.emod_nonneg (cc * 40692 % 2147483579) (show (lens.length : Int) ≠ 0 by omega)
    have i1 := Int.emod_lt_of_pos (cc * 40692 % 2147483579) (show (0 : Int) < (lens.length : Int) by omega)
    exact ⟨_, rfl, _, rfl, _, _, _, rfl, by decide, by decide, by decide, _, rfl, la, _, rfl, .inl hL, _, _, rfl, rfl, (by rw [List.length_map]; omega), la, _, _, _, rfl, rfl, hL, at_int (cc * 40692 % 2147483579 % (lens.length : Int)).toNat (by omega) (by rw [List.length_map]; omega), k _ (Same.refl _)⟩
end
end K16

namespace K16
open PySem L2 FM ST
section
variable {P : Program} {w : World} {K : PySem.W.Frag} {mg : Str → Option Value} {base : Heap}
def FoldAt (K : PySem.W.Frag) (mg : Str → Option Value) (aF : Addr) (fo nm : Str) : Prop := ∃ f, PySem.W.nsIn K aF fo = some (some (.ref f)) ∧ mg nm = some (.ref f)
/-- the two dicts of folds -/
structure Folds (w : World) (K : PySem.W.Frag) (mg : Str → Option Value) (aF aO : Addr) : Prop where
  s1 : FoldAt K mg aF "sum" "plus"
  s2 : FoldAt K mg aF "product" "times"
  s3 : FoldAt K mg aF "least" "lesser"
  s4 : FoldAt K mg aF "most" "greater"
  s5 : FoldAt K mg aF "both" "bits_of_both"
  s6 : FoldAt K mg aF "either" "bits_of_either"
  s7 : FoldAt K mg aF "odd" "bits_of_one"
  n1 : PySem.W.nsIn K aF "chain" = some none
  n2 : PySem.W.nsIn K aF "capped" = some none
  lo : (aF == sysModules) = false
  T : TopDict w K aF
  hF : mg "FREE_FOLDS" = some (.ref aF)
  s8 : FoldAt K mg aO "chain" "chained"
  s9 : FoldAt K mg aO "capped" "capped"
  T' : TopDict w K aO
  hO : mg "ORDERED_FOLDS" = some (.ref aO)
abbrev OL (P : Program) (w : World) (K : PySem.W.Frag) (mg : Str → Option Value) (base : Heap) (nm : Str) (ps : List Str) (sp : Sp) : Prop := Ok P w K mg base (CXe P w base) 2 nm ps sp
def capI (a b : Int) : Int := if (if a + b < 1000000000 then a + b else 1000000000) > -1000000000 then (if a + b < 1000000000 then a + b else 1000000000) else -1000000000
structure FnsF (P : Program) (w : World) (K : PySem.W.Frag) (mg : Str → Option Value) (base : Heap) : Prop where
  f1 : OL P w K mg base "plus" ["left", "right"] (sp2 (fun _ _ => True) fun a b => kept (a + b))
  f2 : OL P w K mg base "times" ["left", "right"] (sp2 (fun a _ => Kin a) fun a b => kept (a * b))
  f3 : OL P w K mg base "lesser" ["left", "right"] (sp2 (fun _ _ => True) fun a b => if b < a then b else a)
  f4 : OL P w K mg base "greater" ["left", "right"] (sp2 (fun _ _ => True) fun a b => if b > a then b else a)
  f5 : OL P w K mg base "bits_of_both" ["left", "right"] (sp2 (fun _ _ => True) Builtin.bitAnd)
  f6 : OL P w K mg base "bits_of_either" ["left", "right"] (sp2 (fun _ _ => True) Builtin.bitOr)
  f7 : OL P w K mg base "bits_of_one" ["left", "right"] (sp2 (fun _ _ => True) Builtin.bitXor)
  f8 : OL P w K mg base "chained" ["run", "number"] (sp2 (fun a _ => Kin a) fun a b => kept (31 * a + b))
  f9 : OL P w K mg base "capped" ["run", "number"] (sp2 (fun _ _ => True) capI)
theorem ok_chained (d : DefIn K mg "chained" s_chained ["run", "number"]) (G : GK P w K mg base) : OL P w K mg base "chained" ["run", "number"] (sp2 (fun a _ => Kin a) fun a b => kept (31 * a + b)) := by
  obtain ⟨f, fd, m, F, b⟩ := d
  refine ⟨f, fd, m, F.kp, b, F.okE sc_chained len2 fun cdv A outer s H vs Q E hr h => ?_⟩
  obtain ⟨x, y, rfl, hx, k⟩ := h
  refine ⟨_, pss_one (ps_ret (pe_ok G hr rfl passE (pa_cons (pe_op op_add (pe_op op_mul pe_int (pv 0)) (pv 1)) pa_nil))), ?_⟩
  exact ⟨_, rfl, _, _, rfl, rfl, .inl ⟨by decide, by decide⟩, _, rfl, _, _, rfl, rfl, _, rfl, k⟩
theorem ok_capped {t : Tok} (d : DefIn K mg "capped" s_capped ["run", "number"]) (hC : mg "CAP" = some (.int 1000000000 t)) (hmin : mg "min" = none) (hmax : mg "max" = none) : OL P w K mg base "capped" ["run", "number"] (sp2 (fun _ _ => True) capI) := by
  obtain ⟨f, fd, m, F, b⟩ := d
  refine ⟨f, fd, m, F.kp, b, F.okE sc_capped len2 fun cdv A outer s H vs Q E hr h => ?_⟩
  obtain ⟨x, y, rfl, hx, k⟩ := h
  refine ⟨_, pss_one (ps_ret (pe_callB (call_max2 rfl) rfl hmax PyProof.Rows.boot_max (pa_cons (pe_un un_neg (pe_gint hC)) (pa_cons (pe_callB (call_min2 rfl) rfl hmin PyProof.Rows.boot_min (pa_cons (pe_gint hC) (pa_cons (pe_op op_add (pv 0) (pv 1)) pa_nil))) pa_nil)))), ?_⟩
  exact ⟨_, rfl, _, rfl, _, rfl, _, _, rfl, rfl, _, _, rfl, _, _, rfl, k⟩
theorem j_sum (a b : Int) : joinR "sum" a b = (kept (a + b)) := by
  unfold joinR
  rw [if_pos rfl]
theorem j_product (a b : Int) : joinR "product" a b = (kept (a * b)) := by
  unfold joinR
  rw [if_neg (by decide), if_pos rfl]
theorem j_least (a b : Int) : joinR "least" a b = (if b < a then b else a) := by
  unfold joinR
  rw [if_neg (by decide), if_neg (by decide), if_pos rfl]
theorem j_most (a b : Int) : joinR "most" a b = (if b > a then b else a) := by
  unfold joinR
  rw [if_neg (by decide), if_neg (by decide), if_neg (by decide), if_pos rfl]
theorem j_both (a b : Int) : joinR "both" a b = (Builtin.bitAnd a b) := by
  unfold joinR
  rw [if_neg (by decide), if_neg (by decide), if_neg (by decide), if_neg (by decide), if_pos rfl]
theorem j_either (a b : Int) : joinR "either" a b = (Builtin.bitOr a b) := by
  unfold joinR
  rw [if_neg (by decide), if_neg (by decide), if_neg (by decide), if_neg (by decide), if_neg (by decide), if_pos rfl]
theorem j_odd (a b : Int) : joinR "odd" a b = (Builtin.bitXor a b) := by
  unfold joinR
  rw [if_neg (by decide), if_neg (by decide), if_neg (by decide), if_neg (by decide), if_neg (by decide), if_neg (by decide), if_pos rfl]
theorem j_chain (a b : Int) : joinR "chain" a b = (kept (a * 31 + b)) := by
  unfold joinR
  rw [if_neg (by decide), if_neg (by decide), if_neg (by decide), if_neg (by decide), if_neg (by decide), if_neg (by decide), if_neg (by decide), if_pos rfl]
theorem j_capped (a b : Int) : joinR "capped" a b = (if a + b > 1000000000 then 1000000000 else if a + b < -1000000000 then -1000000000 else a + b) := by
  unfold joinR
  rw [if_neg (by decide), if_neg (by decide), if_neg (by decide), if_neg (by decide), if_neg (by decide), if_neg (by decide), if_neg (by decide), if_neg (by decide)]
theorem cap_eq (a b : Int) : capI a b = if a + b > 1000000000 then 1000000000 else if a + b < -1000000000 then -1000000000 else a + b := by
  unfold capI
  repeat' split
  all_goals omega
def folds7 : List Str := ["sum", "product", "least", "most", "both", "either", "odd"]
theorem folds9 {f : Str} (h : f ∈ ST.folds) : f ∈ folds7 ∨ f = "chain" ∨ f = "capped" := by
  simp only [ST.folds, List.mem_cons, List.not_mem_nil, or_false] at h
  rcases h with rfl | rfl | rfl | rfl | rfl | rfl | rfl | rfl | rfl
  · exact .inl (by decide)
  · exact .inl (by decide)
  · exact .inl (by decide)
  · exact .inl (by decide)
  · exact .inl (by decide)
  · exact .inl (by decide)
  · exact .inl (by decide)
  · exact .inr (.inl rfl)
  · exact .inr (.inr rfl)
theorem Folds.has {aF aO : Addr} (S : Folds w K mg aF aO) {f : Str} (h : f ∈ folds7) : ∃ u, PySem.W.nsIn K aF f = some (some u) := by
  simp only [folds7, List.mem_cons, List.not_mem_nil, or_false] at h
  rcases h with rfl | rfl | rfl | rfl | rfl | rfl | rfl
  · exact ⟨_, S.s1.choose_spec.1⟩
  · exact ⟨_, S.s2.choose_spec.1⟩
  · exact ⟨_, S.s3.choose_spec.1⟩
  · exact ⟨_, S.s4.choose_spec.1⟩
  · exact ⟨_, S.s5.choose_spec.1⟩
  · exact ⟨_, S.s6.choose_spec.1⟩
  · exact ⟨_, S.s7.choose_spec.1⟩
def spFree : Sp := fun vs H Q _ => ∃ f b, vs = [.str f] ∧ ((f ∈ folds7 ∧ b = true) ∨ ((f = "chain" ∨ f = "capped") ∧ b = false)) ∧ Q (.bl b) H
theorem ok_free {aF aO : Addr} (d : DefIn K mg "free" s_free ["fold"]) (S : Folds w K mg aF aO) : Ok P w K mg base (CXe P w base) 1 "free" ["fold"] spFree := by
  obtain ⟨g, fd, m, F, b⟩ := d
  refine ⟨g, fd, m, F.kp, b, F.okE sc_free (fun vs H Q E ⟨_, _, e, _⟩ => by rw [e]; rfl) fun cdv A outer s H vs Q E hr h => ?_⟩
  obtain ⟨f, b, rfl, hb, k⟩ := h
  refine ⟨_, pss_one (ps_ret (pe_cmpR op_in_top (pv 0) (pe_gref S.hF) rfl)), ?_⟩
  rcases hb with ⟨hf, rfl⟩ | ⟨hf, rfl⟩
  · obtain ⟨u, hu⟩ := S.has hf
    exact ⟨_, rfl, f, aF, some u, rfl, rfl, S.T, S.lo, hu, k⟩
  · rcases hf with rfl | rfl
    · exact ⟨_, rfl, _, aF, none, rfl, rfl, S.T, S.lo, S.n1, k⟩
    · exact ⟨_, rfl, _, aF, none, rfl, rfl, S.T, S.lo, S.n2, k⟩
theorem ok_joined {aF aO : Addr} (d : DefIn K mg "joined" s_joined ["fold", "run", "number"]) (S : Folds w K mg aF aO) (FR : Ok P w K mg base (CXe P w base) 1 "free" ["fold"] spFree) (f : FnsF P w K mg base) : J9 P w K mg base := by
  obtain ⟨g, fd, m, F, b⟩ := d
  refine ⟨g, fd, m, F.kp, b, F.okE sc_joined (fun vs H Q E ⟨_, _, _, e, _⟩ => by rw [e]; rfl) fun cdv A outer s H vs Q E hr h => ?_⟩
  obtain ⟨fo, x, y, rfl, hf, hx, hy, k⟩ := h
  refine ⟨_, pss_cons (ps_if (pt_val (pe_ok FR (hr.mono (by decide)) rfl passE (pa_cons (pv 0) pa_nil))) (pss_one (ps_ret (pe_callV (CX := CXe P w base) (k := 2) (pe_ix ix_top (pe_gref S.hF) (pv 0) (fun _ _ => rfl)) hr passE (pa_cons (pv 1) (pa_cons (pv 2) pa_nil))))) pss_nil)
    (pss_one (ps_ret (pe_callV (CX := CXe P w base) (k := 2) (pe_ix ix_top (pe_gref S.hO) (pv 0) (fun _ _ => rfl)) hr passE (pa_cons (pv 1) (pa_cons (pv 2) pa_nil))))), ?_⟩
  have use : ∀ (aD : Addr) (nm : Str) (ps : List Str) (sp : Sp), TopDict w K aD → FoldAt K mg aD fo nm → OL P w K mg base nm ps sp → sp [.int x, .int y] H Q E →
      ∃ (a : Addr) (k : Str) (u : Value) (v : V), V.ref aD = .ref a ∧ V.str fo = .str k ∧ TopDict w K a ∧ PySem.W.nsIn K a k = some (some u) ∧ RelV v u ∧
        ∃ (f : Addr) (fd : FuncData) (ps : List Str) (sp : Sp), v = .ref f ∧ FnOk P w K mg base (CXe P w base) 2 f fd ps sp ∧ PySem.W.keepIn K (.ref f) = true ∧ Binds K fd ps [] ∧ sp [.int x, .int y] H Q E := by
    intro aD nm ps sp T ⟨f1, e1, m1⟩ ⟨f2, fd2, m2, kp, bb, ok⟩ q
    have e := m1.symm.trans m2
    cases e
    exact ⟨aD, fo, .ref f1, .ref f1, rfl, rfl, T, e1, rfl, f1, fd2, _, sp, rfl, ok, kp, bb, q⟩
  rcases folds9 hf with h7 | h2
  · refine ⟨_, rfl, fo, true, rfl, .inl ⟨h7, rfl⟩, true, rfl, iteT ?_⟩
    suffices h : ∃ (nm : Str) (ps : List Str) (sp : Sp), FoldAt K mg aF fo nm ∧ OL P w K mg base nm ps sp ∧ sp [.int x, .int y] H Q E by
      obtain ⟨nm, ps, sp, a1, a2, a3⟩ := h
      obtain ⟨a, k, u, v, e1, e2, t, e3, r, f, fd, ps, sp', e4, ok, kp, bb, q⟩ := use aF nm ps sp S.T a1 a2 a3
      exact ⟨_, rfl, a, k, u, v, e1, e2, t, e3, r, f, fd, ps, sp', e4, ok, kp, bb, _, rfl, _, rfl, q⟩
    simp only [folds7, List.mem_cons, List.not_mem_nil, or_false] at h7
    rcases h7 with rfl | rfl | rfl | rfl | rfl | rfl | rfl
    · rw [j_sum] at k
      exact ⟨_, _, _, S.s1, f.f1, x, y, rfl, trivial, k⟩
    · rw [j_product] at k
      exact ⟨_, _, _, S.s2, f.f2, x, y, rfl, hx, k⟩
    · rw [j_least] at k
      exact ⟨_, _, _, S.s3, f.f3, x, y, rfl, trivial, k⟩
    · rw [j_most] at k
      exact ⟨_, _, _, S.s4, f.f4, x, y, rfl, trivial, k⟩
    · rw [j_both] at k
      exact ⟨_, _, _, S.s5, f.f5, x, y, rfl, trivial, k⟩
    · rw [j_either] at k
      exact ⟨_, _, _, S.s6, f.f6, x, y, rfl, trivial, k⟩
    · rw [j_odd] at k
      exact ⟨_, _, _, S.s7, f.f7, x, y, rfl, trivial, k⟩
  · refine ⟨_, rfl, fo, false, rfl, .inr ⟨h2, rfl⟩, false, rfl, iteF ?_⟩
    suffices h : ∃ (nm : Str) (ps : List Str) (sp : Sp), FoldAt K mg aO fo nm ∧ OL P w K mg base nm ps sp ∧ sp [.int x, .int y] H Q E by
      obtain ⟨nm, ps, sp, a1, a2, a3⟩ := h
      obtain ⟨a, k, u, v, e1, e2, t, e3, r, f, fd, ps, sp', e4, ok, kp, bb, q⟩ := use aO nm ps sp S.T' a1 a2 a3
      exact ⟨_, rfl, a, k, u, v, e1, e2, t, e3, r, f, fd, ps, sp', e4, ok, kp, bb, _, rfl, _, rfl, q⟩
    rcases h2 with rfl | rfl
    · rw [j_chain, Int.mul_comm] at k
      exact ⟨_, _, _, S.s8, f.f8, x, y, rfl, hx, k⟩
    · rw [j_capped, ← cap_eq] at k
      exact ⟨_, _, _, S.s9, f.f9, x, y, rfl, trivial, k⟩
/-! ### many_of -/
theorem many_Fold {q : Scs} (d : MethIn K q.fold "many_of" "Fold.many_of" s_Fold_many_of ["self", "lengths"]) (cl : Cls K q.fold) (nM : NoAttr K q.fold "many") (ff : Str) (mm : Int) : DispX P w K mg base (CXe P w base) 1 "many_of" (q.of (.fold ff mm)) (spMany K q (.fold ff mm)) := by
  obtain ⟨f, fd, m, F, bd⟩ := d
  refine ⟨cl, f, fd, _, m, F.okE sc_Fold_many_of (fun vs H Q E ⟨_, _, _, _, _, _, _, _, e, _⟩ => by rw [e]; rfl) fun cdv A outer s H vs Q E hr h => ?_, bd⟩
  obtain ⟨x, l, dx, v, p, lens, L, t, rfl, hk, hx, hl, t0, t1, k⟩ := h
  refine ⟨_, (pss_one (ps_ret (pe_fld (pv 0) rfl))), ?_⟩
  have ef : (ST.fieldsOf L v p t).lookup ("many" : Str) = some (.int (manyOf lens L)) := by unfold ST.fieldsOf manyOf; rw [hk]; rfl
  exact ⟨_, rfl, x, _, dx, _, _, rfl, hx, cl, nM, ef, k⟩
theorem many_Running {q : Scs} (d : MethIn K q.run "many_of" "Running.many_of" s_Running_many_of ["self", "lengths"]) (cl : Cls K q.run) (nT : NoAttr K q.run "target") (ff : Str) : DispX P w K mg base (CXe P w base) 1 "many_of" (q.of (.run ff)) (spMany K q (.run ff)) := by
  obtain ⟨f, fd, m, F, bd⟩ := d
  refine ⟨cl, f, fd, _, m, F.okE sc_Running_many_of (fun vs H Q E ⟨_, _, _, _, _, _, _, _, e, _⟩ => by rw [e]; rfl) fun cdv A outer s H vs Q E hr h => ?_, bd⟩
  obtain ⟨x, l, dx, v, p, lens, L, t, rfl, hk, hx, hl, t0, t1, k⟩ := h
  refine ⟨_, (pss_one (ps_ret (pe_ix ix_list (pv 1) (pe_fld (pv 0) rfl) (fun _ _ => rfl)))), ?_⟩
  have em : manyOf lens L = lens.getD L.target.toNat 0 := by unfold manyOf; rw [hk]
  rw [em] at k
  exact ⟨_, rfl, _, rfl, x, _, dx, _, _, rfl, hx, cl, nT, fld_target, l, _, _, _, rfl, rfl, hl, at_int L.target.toNat t1 (by omega), k⟩
end
end K16

namespace K16
open PySem L2 FM ST
section
variable {P : Program} {w : World} {K : PySem.W.Frag} {mg : Str → Option Value} {base : Heap}
def spLJ : Sp := fun vs H Q _ => ∃ f a b, vs = [.str f, .int a, .int b] ∧ f ∈ ST.folds ∧ Kin a ∧ Kin b ∧ ∀ H', Same H H' → Q (.int (joinR f a b)) H'
theorem iteTb {b : Bool} {A B : Prop} (hb : b = true) (h : A) : if b = true then A else B := by rw [hb]; exact iteT h
theorem iteFb {b : Bool} {A B : Prop} (hb : b = false) (h : B) : if b = true then A else B := by rw [hb]; exact iteF h
theorem ne_free {H : Hp} {t t2 : Addr} {o : HO} (n : H t = none) (n2 : upd H t o t2 = none) : H t2 = none := by
  by_cases e : t2 = t
  · rw [e]; exact n
  · rw [upd_ne e] at n2; exact n2
theorem iteEqS {x : V} {A B : Prop} (h : A) : if decide (x = x) = true then A else B := by
  rw [decide_eq_true rfl]; exact iteT h
theorem iteNeS' {s t : Str} {A B : Prop} (n : s ≠ t) (h : B) : if decide (V.str s = V.str t) = true then A else B := by
  rw [decide_eq_false (fun e => n (by injection e))]; exact iteF h
theorem ok_ljoined (d : DefIn K mg "_law_joined" s_l_joined ["_law_fold", "_law_run", "_law_number"]) (hmin : mg "min" = none) (hmax : mg "max" = none) : Ok P w K mg base CX0 1 "_law_joined" ["_law_fold", "_law_run", "_law_number"] spLJ := by
  obtain ⟨g, fd, m, F, b⟩ := d
  refine ⟨g, fd, m, F.kp, b, F.ok sc_l_joined (fun vs H Q E ⟨_, _, _, e, _⟩ => by rw [e]; rfl) fun cdv A outer s H vs Q E hr h => ?_⟩
  obtain ⟨f, x, y, rfl, hf, hx, hy, k⟩ := h
  have nd := sc_l_joined.nd
  refine ⟨_, (pss_cons (ps_if (pt_cmpR op_in_seq (pv 0) (pe_tup (pa_cons pe_str (pa_cons pe_str (pa_cons pe_str pa_nil)))) rfl) (pss_one (ps_ret (pe_ix ix_list (pe_lst (pa_cons (pe_op op_and (pv 1) (pv 2)) (pa_cons (pe_op op_or (pv 1) (pv 2)) (pa_cons (pe_op op_xor (pv 1) (pv 2)) pa_nil)))) (pe_bm PySem.F.plainAttrs_list PySem.F.slot_list_index PySem.F.type_list_index mt_indexV (pe_lst (pa_cons pe_str (pa_cons pe_str (pa_cons pe_str pa_nil)))) (pa_cons (pv 0) pa_nil)) (fun _ _ => rfl)))) pss_nil)
      (pss_cons (ps_if (pt_cmpR op_in_seq (pv 0) (pe_tup (pa_cons pe_str (pa_cons pe_str pa_nil))) rfl) (pss_one (ps_ret (pe_ifExp (pt_cmpR op_eq (pv 0) pe_str (nomark _)) (pe_callB (call_min2 rfl) rfl hmin PyProof.Rows.boot_min (pa_cons (pv 1) (pa_cons (pv 2) pa_nil))) (pe_callB (call_max2 rfl) rfl hmax PyProof.Rows.boot_max (pa_cons (pv 1) (pa_cons (pv 2) pa_nil)))))) pss_nil)
      (pss_cons (ps_if (pt_cmpR op_eq (pv 0) pe_str (nomark _)) (pss_one (ps_ret (pe_callB (call_min2 rfl) rfl hmin PyProof.Rows.boot_min (pa_cons pe_int (pa_cons (pe_callB (call_max2 rfl) rfl hmax PyProof.Rows.boot_max (pa_cons (pe_un un_neg pe_int) (pa_cons (pe_op op_add (pv 1) (pv 2)) pa_nil))) pa_nil))))) pss_nil)
      (pss_cons (ps_set (i := 3) nd rfl (Or.inl rfl) (pe_op op_add (pv 1) (pv 2)))
      (pss_cons (ps_if (pt_cmpR op_eq (pv 0) pe_str (nomark _)) (pss_one (ps_set (i := 3) nd rfl (Or.inl rfl) (pe_op op_mul (pv 1) (pv 2)))) pss_nil)
      (pss_cons (ps_if (pt_cmpR op_eq (pv 0) pe_str (nomark _)) (pss_one (ps_set (i := 3) nd rfl (Or.inl rfl) (pe_op op_add (pe_op op_mul pe_int (pv 1)) (pv 2)))) pss_nil)
      (pss_one (ps_ret (pe_op op_sub (pe_op op_mod (pe_op op_add (pv 3) pe_int) pe_int) pe_int))))))))), ?_⟩
  simp only [ST.folds, List.mem_cons, List.not_mem_nil, or_false] at hf
  rcases hf with rfl | rfl | rfl | rfl | rfl | rfl | rfl | rfl | rfl
  · rw [j_sum] at k
    refine ⟨_, rfl, (by show 3 ≤ sizeLine; decide), fun t nt => ⟨t, _, rfl, .inr (SqT.of upd_same), rfl, rfl, _, rfl, iteFb (by decide) ?_⟩⟩
    refine ⟨_, rfl, (by show 2 ≤ sizeLine; decide), fun t2 nt2 => ⟨t2, _, rfl, .inr (SqT.of upd_same), rfl, rfl, _, rfl, iteFb (by decide) ?_⟩⟩
    refine ⟨_, rfl, rfl, _, rfl, iteNeS' (by decide) ?_⟩
    refine ⟨_, rfl, _, rfl, _, _, rfl, rfl, ?_⟩
    refine ⟨_, rfl, rfl, _, rfl, iteNeS' (by decide) ?_⟩
    refine ⟨_, rfl, rfl, _, rfl, iteNeS' (by decide) ?_⟩
    exact ⟨_, rfl, _, _, rfl, rfl, _, _, rfl, rfl, (by show (0 : Int) < 18446744073709551616; decide), _, _, rfl, rfl, k _ (same_upd (same_upd (Same.refl _) nt) (ne_free nt nt2))⟩
  · rw [j_product] at k
    refine ⟨_, rfl, (by show 3 ≤ sizeLine; decide), fun t nt => ⟨t, _, rfl, .inr (SqT.of upd_same), rfl, rfl, _, rfl, iteFb (by decide) ?_⟩⟩
    refine ⟨_, rfl, (by show 2 ≤ sizeLine; decide), fun t2 nt2 => ⟨t2, _, rfl, .inr (SqT.of upd_same), rfl, rfl, _, rfl, iteFb (by decide) ?_⟩⟩
    refine ⟨_, rfl, rfl, _, rfl, iteNeS' (by decide) ?_⟩
    refine ⟨_, rfl, _, rfl, _, _, rfl, rfl, ?_⟩
    refine ⟨_, rfl, rfl, _, rfl, iteEqS ?_⟩
    refine ⟨_, rfl, _, rfl, _, _, rfl, rfl, .inl ⟨by omega, by omega⟩, ?_⟩
    refine ⟨_, rfl, rfl, _, rfl, iteNeS' (by decide) ?_⟩
    exact ⟨_, rfl, _, _, rfl, rfl, _, _, rfl, rfl, (by show (0 : Int) < 18446744073709551616; decide), _, _, rfl, rfl, k _ (same_upd (same_upd (Same.refl _) nt) (ne_free nt nt2))⟩
  · rw [j_least] at k
    refine ⟨_, rfl, (by show 3 ≤ sizeLine; decide), fun t nt => ⟨t, _, rfl, .inr (SqT.of upd_same), rfl, rfl, _, rfl, iteFb (by decide) ?_⟩⟩
    refine ⟨_, rfl, (by show 2 ≤ sizeLine; decide), fun t2 nt2 => ⟨t2, _, rfl, .inr (SqT.of upd_same), rfl, rfl, _, rfl, iteTb (by decide) ?_⟩⟩
    exact ⟨_, rfl, rfl, _, rfl, iteEqS ⟨_, rfl, _, rfl, _, _, rfl, k _ (same_upd (same_upd (Same.refl _) nt) (ne_free nt nt2))⟩⟩
  · rw [j_most] at k
    refine ⟨_, rfl, (by show 3 ≤ sizeLine; decide), fun t nt => ⟨t, _, rfl, .inr (SqT.of upd_same), rfl, rfl, _, rfl, iteFb (by decide) ?_⟩⟩
    refine ⟨_, rfl, (by show 2 ≤ sizeLine; decide), fun t2 nt2 => ⟨t2, _, rfl, .inr (SqT.of upd_same), rfl, rfl, _, rfl, iteTb (by decide) ?_⟩⟩
    exact ⟨_, rfl, rfl, _, rfl, iteNeS' (by decide) ⟨_, rfl, _, rfl, _, _, rfl, k _ (same_upd (same_upd (Same.refl _) nt) (ne_free nt nt2))⟩⟩
  · rw [j_both] at k
    refine ⟨_, rfl, (by show 3 ≤ sizeLine; decide), fun t nt => ⟨t, _, rfl, .inr (SqT.of upd_same), rfl, rfl, _, rfl, iteTb (by decide) ?_⟩⟩
    refine ⟨_, rfl, _, rfl, _, _, rfl, rfl, _, rfl, _, rfl, _, _, rfl, rfl, _, rfl, _, rfl, _, _, rfl, rfl, (by show 3 ≤ sizeLine; decide), fun l1 n1 => ?_⟩
    refine ⟨(by show 3 ≤ sizeLine; decide), fun l2 n2 => ⟨.inl ⟨rfl, _, SqL.of upd_same⟩, _, rfl, l2, _, _, 0, rfl, rfl, upd_same, rfl, rfl, (by show 3 < 1000; decide), ⟨_, rfl, by decide⟩, (fun m z hm e => absurd hm (Nat.not_lt_zero m)), l1, _, _, _, rfl, rfl, SqL.of (by rw [upd_ne (ne_of_none upd_same n2)]; exact upd_same), rfl, k _ (same_upd (same_upd (same_upd (Same.refl _) nt) (ne_free nt n1)) (ne_free nt (ne_free n1 n2)))⟩⟩
  · rw [j_either] at k
    refine ⟨_, rfl, (by show 3 ≤ sizeLine; decide), fun t nt => ⟨t, _, rfl, .inr (SqT.of upd_same), rfl, rfl, _, rfl, iteTb (by decide) ?_⟩⟩
    refine ⟨_, rfl, _, rfl, _, _, rfl, rfl, _, rfl, _, rfl, _, _, rfl, rfl, _, rfl, _, rfl, _, _, rfl, rfl, (by show 3 ≤ sizeLine; decide), fun l1 n1 => ?_⟩
    refine ⟨(by show 3 ≤ sizeLine; decide), fun l2 n2 => ⟨.inl ⟨rfl, _, SqL.of upd_same⟩, _, rfl, l2, _, _, 1, rfl, rfl, upd_same, rfl, rfl, (by show 3 < 1000; decide), ⟨_, rfl, by decide⟩, (fun m z hm e => by
        cases m with
        | zero => cases (show some _ = some z from e); decide
        | succ m => omega), l1, _, _, _, rfl, rfl, SqL.of (by rw [upd_ne (ne_of_none upd_same n2)]; exact upd_same), rfl, k _ (same_upd (same_upd (same_upd (Same.refl _) nt) (ne_free nt n1)) (ne_free nt (ne_free n1 n2)))⟩⟩
  · rw [j_odd] at k
    refine ⟨_, rfl, (by show 3 ≤ sizeLine; decide), fun t nt => ⟨t, _, rfl, .inr (SqT.of upd_same), rfl, rfl, _, rfl, iteTb (by decide) ?_⟩⟩
    refine ⟨_, rfl, _, rfl, _, _, rfl, rfl, _, rfl, _, rfl, _, _, rfl, rfl, _, rfl, _, rfl, _, _, rfl, rfl, (by show 3 ≤ sizeLine; decide), fun l1 n1 => ?_⟩
    refine ⟨(by show 3 ≤ sizeLine; decide), fun l2 n2 => ⟨.inl ⟨rfl, _, SqL.of upd_same⟩, _, rfl, l2, _, _, 2, rfl, rfl, upd_same, rfl, rfl, (by show 3 < 1000; decide), ⟨_, rfl, by decide⟩, (fun m z hm e => by
        match m, e with
        | 0, e => cases (show some _ = some z from e); decide
        | 1, e => cases (show some _ = some z from e); decide
        | m + 2, _ => omega), l1, _, _, _, rfl, rfl, SqL.of (by rw [upd_ne (ne_of_none upd_same n2)]; exact upd_same), rfl, k _ (same_upd (same_upd (same_upd (Same.refl _) nt) (ne_free nt n1)) (ne_free nt (ne_free n1 n2)))⟩⟩
  · rw [j_chain, Int.mul_comm] at k
    refine ⟨_, rfl, (by show 3 ≤ sizeLine; decide), fun t nt => ⟨t, _, rfl, .inr (SqT.of upd_same), rfl, rfl, _, rfl, iteFb (by decide) ?_⟩⟩
    refine ⟨_, rfl, (by show 2 ≤ sizeLine; decide), fun t2 nt2 => ⟨t2, _, rfl, .inr (SqT.of upd_same), rfl, rfl, _, rfl, iteFb (by decide) ?_⟩⟩
    refine ⟨_, rfl, rfl, _, rfl, iteNeS' (by decide) ?_⟩
    refine ⟨_, rfl, _, rfl, _, _, rfl, rfl, ?_⟩
    refine ⟨_, rfl, rfl, _, rfl, iteNeS' (by decide) ?_⟩
    refine ⟨_, rfl, rfl, _, rfl, iteEqS ?_⟩
    refine ⟨_, rfl, _, _, rfl, rfl, .inl ⟨by decide, by decide⟩, _, rfl, _, _, rfl, rfl, ?_⟩
    exact ⟨_, rfl, _, _, rfl, rfl, _, _, rfl, rfl, (by show (0 : Int) < 18446744073709551616; decide), _, _, rfl, rfl, k _ (same_upd (same_upd (Same.refl _) nt) (ne_free nt nt2))⟩
  · rw [j_capped] at k
    refine ⟨_, rfl, (by show 3 ≤ sizeLine; decide), fun t nt => ⟨t, _, rfl, .inr (SqT.of upd_same), rfl, rfl, _, rfl, iteFb (by decide) ?_⟩⟩
    refine ⟨_, rfl, (by show 2 ≤ sizeLine; decide), fun t2 nt2 => ⟨t2, _, rfl, .inr (SqT.of upd_same), rfl, rfl, _, rfl, iteFb (by decide) ?_⟩⟩
    refine ⟨_, rfl, rfl, _, rfl, iteEqS ?_⟩
    have e : (if (if x + y > -1000000000 then x + y else -1000000000) < 1000000000 then (if x + y > -1000000000 then x + y else -1000000000) else 1000000000) = (if x + y > 1000000000 then 1000000000 else if x + y < -1000000000 then -1000000000 else x + y) := by
      repeat' split
      all_goals omega
    rw [← e] at k
    exact ⟨_, rfl, _, rfl, _, rfl, _, _, rfl, rfl, _, _, rfl, _, _, rfl, k _ (same_upd (same_upd (Same.refl _) nt) (ne_free nt nt2))⟩
end
end K16

namespace K16
open PySem L2 FM ST
section
variable {P : Program} {w : World} {K : PySem.W.Frag} {mg : Str → Option Value} {base : Heap}
def kdBy (cc : Int) (lens : List Int) : Kd := if cc % 2 = 0 then .fold (foldBy cc) (manyBy cc lens) else .run (foldBy cc)
def spStepBy (P : Program) (w : World) (K : PySem.W.Frag) (mg : Str → Option Value) (base : Heap) (c : F2.Cs) (CN OU : Addr) (q : Scs) : Sp := fun vs H Q _ => ∃ (la : Addr) (cc : Int) (lens : List Int), vs = [.int cc, .ref la] ∧ SqL K H la (lens.map V.int) ∧ LensOk lens ∧
  ∀ (H' : Hp) (x : Addr) (L : StepD), Same H H' → StepAt c q H' L x → L.kind = kdBy cc lens → L.target = tgtBy cc lens → (L.test = none ↔ ¬ cc % 3 = 0) → StepW P w K mg base c CN OU 7 FS 2 L → StepOk FS 2 lens L → Q (.ref x) H'
theorem ok_stepBy {c : F2.Cs} {CN OU : Addr} {q : Scs} (d : DefIn K mg "_law_step_by" s_l_step_by ["_law_cell", "_law_lengths"]) (hlen : mg "len" = none) (hrg : mg "range" = none) (hlist : mg "list" = none) (hCf : mg "Fold" = some (.ref q.fold)) (hCr : mg "Running" = some (.ref q.run)) (IF2 : OkN P w K mg base (CXe P w base) 1 q.fold ["self", "target", "fold", "value", "many", "test"] (spI_Fold q.fold)) (IR2 : OkN P w K mg base (CXe P w base) 1 q.run ["self", "target", "fold", "value", "test"] (spI_Running q.run))
    (MX : Ok P w K mg base (CXe P w base) 1 "_law_mix" ["_law_cell", "_law_factor", "_law_prime"] spMix) (FB : Ok P w K mg base CX0 2 "_law_fold_by" ["_law_cell"] spFoldBy) (TB : Ok P w K mg base CX0 2 "_law_target_by" ["_law_cell", "_law_lengths"] (spTgtBy K)) (MB : Ok P w K mg base CX0 3 "_law_many_by" ["_law_cell", "_law_lengths"] (spManyBy K)) (VB : Ok P w K mg base CX0 4 "_law_value_by" ["_law_cell", "_law_rows", "_law_far", "_law_lengths"] (spValBy P w K mg base c CN OU)) :
    Ok P w K mg base CX0 5 "_law_step_by" ["_law_cell", "_law_lengths"] (spStepBy P w K mg base c CN OU q) := by
  obtain ⟨g, fd, m, F, b⟩ := d
  refine ⟨g, fd, m, F.kp, b, F.ok sc_l_step_by (fun vs H Q E ⟨_, _, _, e, _⟩ => by rw [e]; rfl) fun cdv A outer s H vs Q E hr h => ?_⟩
  obtain ⟨la, cc, lens, rfl, hL, ok, fin⟩ := h
  have nd := sc_l_step_by.nd
  have hr4 := hr
  have hr3 : Room 3 _ := hr.mono (by decide)
  have hr2 : Room 2 _ := hr.mono (by decide)
  have hr1 : Room 1 _ := hr.mono (by decide)
  have IF3 := IF2.all
  have IR3 := IR2.all
  have SL : (600 : Nat) < sizeLine := by decide
  have l1 := ok.l1
  have l6 := ok.l6
  refine ⟨_, (pss_cons (ps_set (i := 2) nd rfl (Or.inr rfl) (pe_ok TB hr2 (by rfl) pass0 (pa_cons (pv 0) (pa_cons (pv 1) pa_nil))))
      (pss_cons (ps_set (i := 3) nd rfl (Or.inr rfl) (pe_ok MB hr3 (by rfl) pass0 (pa_cons (pv 0) (pa_cons (pv 1) pa_nil))))
      (pss_cons (ps_compF (i := 4) ["_law_row", "_law_target"] [none, some 2] rfl rfl rfl (pi_range1 rfl hrg (pa_cons (pe_callB call_len_seq (by rfl) hlen PySem.boot_len (pa_cons (pv 1) pa_nil)) pa_nil)) (fun s3 H3 fp => ⟨pg_name (i := 0) (show ((["_law_row", "_law_target"] : List Str)).Nodup by decide +kernel) rfl (Or.inl rfl), (pt_cmpR op_ne (pv 0) (pv 1) (nomark _)), (pv 0)⟩) nd rfl (Or.inl rfl))
      (pss_cons (ps_mid (ps_set (i := 6) nd rfl (Or.inl rfl) (pe_ifExp (pt_cmpR op_eq (pe_op op_mod (pv 0) pe_int) pe_int (nomark _)) (pv 4) (pe_callTy (call_list_rng rfl) (by rfl) hlist PyProof.Rows.boot_list (pa_cons (pe_callTy call_rangeV (by rfl) hrg PyProof.Rows.boot_range (pa_cons (pe_callB call_len_seq (by rfl) hlen PySem.boot_len (pa_cons (pv 1) pa_nil)) pa_nil)) pa_nil)))))
      (pss_cons (ps_compF (i := 7) ["_law_row", "_law_lengths", "_law_many"] [none, some 1, some 3] rfl rfl rfl (pi_list (pv 6)) (fun s3 H3 fp => ⟨pg_name (i := 0) (show ((["_law_row", "_law_lengths", "_law_many"] : List Str)).Nodup by decide +kernel) rfl (Or.inl rfl), (pt_cmpR (op_inK (K := K) rfl) (pe_ix (ix_listK (K := K) rfl) (pv 1) (pv 0) (fun _ _ => rfl)) (pe_tup (pa_cons (pv 2) (pa_cons pe_int pa_nil))) rfl), (pv 0)⟩) nd rfl (Or.inl rfl))
      (pss_cons (ps_set (i := 8) nd rfl (Or.inl rfl) (pe_ok VB hr4 (by rfl) pass0 (pa_cons (pe_ok MX hr1 (by rfl) passF (pa_cons (pv 0) (pa_cons pe_int (pa_cons pe_int pa_nil)))) (pa_cons (pv 7) (pa_cons (pv 4) (pa_cons (pv 1) pa_nil))))))
      (pss_cons (ps_set (i := 9) nd rfl (Or.inl rfl) pe_non)
      (pss_cons (ps_mid (ps_if (pt_cmpR op_eq (pe_op op_mod (pv 0) pe_int) pe_int (nomark _)) (pss_one (ps_set (i := 9) nd rfl (Or.inl rfl) (pe_ok VB hr4 (by rfl) pass0 (pa_cons (pe_ok MX hr1 (by rfl) passF (pa_cons (pv 0) (pa_cons pe_int (pa_cons pe_int pa_nil)))) (pa_cons (pv 7) (pa_cons (pv 4) (pa_cons (pv 1) pa_nil))))))) pss_nil))
      (pss_cons (ps_if (pt_cmpR op_eq (pe_op op_mod (pv 0) pe_int) pe_int (nomark _)) (pss_cons (ps_if (pt_cmpR op_eq (pe_op op_mod (pv 0) pe_int) pe_int (nomark _)) (pss_one (ps_ret (pe_okN IF2 hCf hr2 (by rfl) passF (pa_cons (pv 2) (pa_cons (pe_ok FB hr2 (by rfl) pass0 (pa_cons (pv 0) pa_nil)) (pa_cons (pv 8) (pa_cons (pv 3) pa_nil))))))) pss_nil)
      (pss_one (ps_ret (pe_okI IF3 hCf hr2 (by rfl) passF (pa_cons (pv 2) (pa_cons (pe_ok FB hr2 (by rfl) pass0 (pa_cons (pv 0) pa_nil)) (pa_cons (pv 8) (pa_cons (pv 3) (pa_cons (pv 9) pa_nil))))))))) pss_nil)
      (pss_cons (ps_if (pt_cmpR op_eq (pe_op op_mod (pv 0) pe_int) pe_int (nomark _)) (pss_one (ps_ret (pe_okN IR2 hCr hr2 (by rfl) passF (pa_cons (pv 2) (pa_cons (pe_ok FB hr2 (by rfl) pass0 (pa_cons (pv 0) pa_nil)) (pa_cons (pv 8) pa_nil)))))) pss_nil)
      (pss_one (ps_ret (pe_okI IR3 hCr hr2 (by rfl) passF (pa_cons (pv 2) (pa_cons (pe_ok FB hr2 (by rfl) pass0 (pa_cons (pv 0) pa_nil)) (pa_cons (pv 8) (pa_cons (pv 9) pa_nil))))))))))))))))), ?_⟩
  refine ⟨_, rfl, _, rfl, la, cc, lens, rfl, hL, ok, fun Ha sa => ?_⟩
  have hL := sql_same hL sa
  refine ⟨_, rfl, _, rfl, la, cc, lens, rfl, hL, ok, fun Hb sb => ?_⟩
  have hL := sql_same hL sb
  have sab := sa.trans sb
  have ti := tgtBy_in (cc := cc) ok
  have mi := manyBy_in (cc := cc) ok
  have mt : ¬ cc % 2 = 0 → manyBy cc lens = lens.getD (tgtBy cc lens).toNat 0 := fun z => by unfold manyBy; rw [if_pos (by omega)]
  have fin : ∀ (H' : Hp) (x : Addr) (L : StepD), Same Hb H' → StepAt c q H' L x → L.kind = kdBy cc lens → L.target = tgtBy cc lens → (L.test = none ↔ ¬ cc % 3 = 0) → StepW P w K mg base c CN OU 7 FS 2 L → StepOk FS 2 lens L → Q (.ref x) H' := fun H' x L s' => fin H' x L (sab.trans s')
  have hfo := foldBy_in cc
  clear sab sa sb
  unfold kdBy at fin
  generalize tgtBy cc lens = tg at ti mt fin ⊢
  generalize manyBy cc lens = mn at mi mt fin ⊢
  obtain ⟨tn, rfl⟩ : ∃ tn : Nat, tg = tn := ⟨tg.toNat, by omega⟩
  have tl : tn < lens.length := by have := ti.2.1; omega
  refine ⟨_, rfl, la, _, rfl, .inl hL, _, rfl, (by rw [List.length_map]; omega), (by rw [List.length_map]; omega), ?_⟩
  rw [List.length_map, Int.toNat_natCast]
  refine ⟨_, rfl, fun D nD => ?_⟩
  have h : Hd Hb [(D, .lst (([] : List Int).map V.int))] (upd Hb D (.lst [])) := Hd.base.new nD
  generalize upd Hb D (.lst []) = H1 at h ⊢
  refine compF_range (n := lens.length) (fun i σ J => ∃ (u : Option V) (rs : List Int), σ = [u, some (.int (tn : Int))] ∧ rs.length ≤ i ∧ (∀ r ∈ rs, 0 ≤ r ∧ r.toNat < lens.length) ∧ Hd Hb [(D, .lst (rs.map V.int))] J) ⟨none, [], rfl, Nat.le_refl _, (fun v hv => nomatch hv), h⟩ ?_ ?_
  · clear h
    rintro i σ J hi ⟨u, rs, rfl, hl, hg, h⟩
    refine ⟨_, rfl, _, rfl, rfl, _, rfl, ?_⟩
    refine ite2 (fun z => ?_) (fun _ => ⟨_, rs, rfl, by omega, hg, h⟩)
    refine ⟨_, rfl, _, h.get 0 rfl, (by rw [List.length_map]; omega), _, rs ++ [0 + (i : Int)], rfl, (by rw [List.length_append]; show rs.length + 1 ≤ i + 1; omega), fun r hr => ?_, ?_⟩
    · rcases List.mem_append.mp hr with hr | hr
      · exact hg r hr
      · cases List.mem_singleton.mp hr
        have e : (0 + (i : Int)).toNat = i := by omega
        rw [e]
        exact ⟨by omega, hi⟩
    · rw [List.map_append]; exact h.put 0 rfl
  clear h
  rintro σ J ⟨u, far, rfl, hf6, hgf, h⟩
  -- near
  refine ⟨fun σ' J' => ∃ (N : Addr) (nr : List Int), σ' = [some (.int cc), some (.ref la), some (.int (tn : Int)), some (.int mn), some (.ref D), none, some (.ref N), none, none, none] ∧ Hd Hb [(D, .lst (far.map V.int))] J' ∧ SqL K J' N (nr.map V.int) ∧ nr.length ≤ 6 ∧ ∀ r ∈ nr, 0 ≤ r ∧ r.toNat < lens.length, ?_, ?_⟩
  · refine ⟨_, rfl, _, _, rfl, rfl, (by show (0 : Int) < 2; decide), rfl, _, rfl, ?_⟩
    refine ite2 (fun z => ?_) (fun z => ?_)
    · exact ⟨_, rfl, D, far, rfl, h, h.lst 0 rfl, by omega, hgf⟩
    · refine ⟨_, rfl, la, _, rfl, .inl (h.sql hL), _, rfl, fun rg nrg => ⟨rg, lens.length, rfl, ?_, by omega, fun N nN => ?_⟩⟩
      · rw [upd_same, List.length_map]
      have h2 := (h.new nrg).new (o := .lst ((upto lens.length).map V.int)) nN
      refine ⟨N, upto lens.length, rfl, h2.tl.tl, h2.lst 0 rfl, ?_, fun r hr => ?_⟩
      · unfold upto; rw [List.length_map, List.length_range]; exact l6
      · obtain ⟨i, hi, rfl⟩ := List.mem_map.mp hr
        exact ⟨by show (0 : Int) ≤ (i : Int); omega, List.mem_range.mp hi⟩
  clear h
  rintro σ' J' ⟨N, nr, rfl, h, hN, hn6, hgn⟩
  -- rows
  refine ⟨_, rfl, N, rfl, ⟨_, hN⟩, _, rfl, fun D2 nD2 => ?_⟩
  have hN' := fun (J2 : Hp) (s : Same J' J2) => sql_same hN s
  have h : Hd J' [(D2, .lst (([] : List Int).map V.int))] (upd J' D2 (.lst [])) := Hd.base.new nD2
  have hB := fun (J2 : Hp) (s : Same J' J2) => (by assumption : Hd Hb [(D, .lst (far.map V.int))] J').same s
  have hLJ : SqL K J' la (lens.map V.int) := (by assumption : Hd Hb [(D, .lst (far.map V.int))] J').sql hL
  generalize upd J' D2 (.lst []) = J1 at h ⊢
  refine compF_list (K := K) (a := N) (xs := nr.map V.int) (fun i σ J => ∃ (u : Option V) (rs : List Int), σ = [u, some (.ref la), some (.int mn)] ∧ rs.length ≤ i ∧ (∀ r ∈ rs, 0 ≤ r ∧ r.toNat < lens.length ∧ (lens.getD r.toNat 0 = mn ∨ lens.getD r.toNat 0 = 1)) ∧ Hd J' [(D2, .lst (rs.map V.int))] J) ⟨none, [], rfl, Nat.le_refl _, (fun v hv => nomatch hv), h⟩ (fun i σ J _ ⟨_, _, _, _, _, h⟩ => hN' _ h.sm) ?_ ?_
  · clear h
    rintro i y σ J hi ⟨u, rs, rfl, hl, hg, h⟩
    obtain ⟨hlt, rfl⟩ := map_int_at hi
    have hfi := hgn _ (L2.getD_mem hlt)
    generalize nr.getD i 0 = ro at hfi ⊢
    refine ⟨_, rfl, _, rfl, la, _, _, _, rfl, rfl, h.sql hLJ, at_int ro.toNat hfi.2 (by omega), ?_⟩
    refine ⟨_, rfl, (by show 2 ≤ sizeLine; decide), fun t nt => ?_⟩
    have h := h.new (o := .tup [.int mn, .int 1]) nt
    refine ⟨t, _, rfl, .inr (h.tup 0 rfl), rfl, rfl, _, rfl, ?_⟩
    have iv : inV (V.int (lens.getD ro.toNat 0)) [V.int mn, V.int 1] = true → lens.getD ro.toNat 0 = mn ∨ lens.getD ro.toNat 0 = 1 := by
      unfold inV
      simp [eqV]
      omega
    refine ite2 (fun z => ?_) (fun _ => ⟨_, rs, rfl, by omega, hg, h.tl⟩)
    have h := h.tl
    refine ⟨_, rfl, _, h.get 0 rfl, (by rw [List.length_map]; omega), _, rs ++ [ro], rfl, (by rw [List.length_append]; show rs.length + 1 ≤ i + 1; omega), fun r hr => ?_, ?_⟩
    · rcases List.mem_append.mp hr with hr | hr
      · exact hg r hr
      · cases List.mem_singleton.mp hr
        exact ⟨hfi.1, hfi.2, iv z⟩
    · rw [List.map_append]; exact h.put 0 rfl
  clear h
  rintro σ J2 ⟨u, rows, rfl, hr6, hg, hR⟩
  rw [List.length_map] at hr6
  have h := hB J2 hR.sm
  have ro : RowsOk rows far lens mn := ⟨by omega, by omega, l6, hg, hgf, ok.le⟩
  refine ⟨_, rfl, _, _, _, rfl, by decide, by decide, by decide, _, rfl, _, rfl, _, rfl, D2, D, la, _, rows, far, lens, _, rfl, hR.lst 0 rfl, h.lst 0 rfl, h.sql hL, ro, fun J3 v Fv s3 fv gv => ?_⟩
  have h := h.same s3
  have eR : SqL K J3 D2 (rows.map V.int) := sql_same (hR.lst 0 rfl) s3
  have nn : ∀ v ∈ lens, 0 ≤ v := fun v hv => by have := ok.le v hv; omega
  have le4 : ∀ v ∈ lens, v ≤ 400 := fun v hv => by have := ok.le v hv; omega
  -- the test
  refine ⟨fun σ' J' => ∃ (tv : V) (T : Option F2.Fm), σ' = [some (.int cc), some (.ref la), some (.int (tn : Int)), some (.int mn), some (.ref D), none, some (.ref N), some (.ref D2), some (.ref v), some tv] ∧ Same Hb J' ∧ F2.FormAt c J' Fv v ∧ (match T with
      | none => tv = .non
      | some F => ∃ u, tv = .ref u ∧ F2.FormAt c J' F u) ∧ (T = none ↔ ¬ cc % 3 = 0) ∧ (∀ F, T = some F → FormG P w K mg base c CN OU 7 lens mn F), ?_, ?_⟩
  · refine ⟨_, rfl, _, _, rfl, rfl, (by show (0 : Int) < 3; decide), rfl, _, rfl, ?_⟩
    rw [intEq]
    refine ite2 (fun z => ?_) (fun z => ?_)
    · have z : cc % 3 = 0 := by simpa using z
      refine ⟨_, rfl, _, _, _, rfl, by decide, by decide, by decide, _, rfl, _, rfl, _, rfl, D2, D, la, _, rows, far, lens, _, rfl, eR, h.lst 0 rfl, h.sql hL, ro, fun J4 t Ft s4 ft gt => ?_⟩
      exact ⟨.ref t, some Ft, rfl, h.sm.trans s4, fv.same s4, ⟨t, rfl, ft⟩, ⟨(fun e => by cases e), fun e => absurd z e⟩, fun F e => by cases e; exact gt⟩
    · have z : ¬ cc % 3 = 0 := by simpa using z
      exact ⟨.non, none, rfl, h.sm, fv, rfl, ⟨fun _ => z, fun _ => rfl⟩, fun F e => by cases e⟩
  clear h fv
  rintro σ' J4 ⟨tv, T, rfl, s4, fv, hT2, hTt, hTg⟩
  have okF : ∀ (mm : manyOf lens ⟨tn, Fv, T, if cc % 2 = 0 then .fold (foldBy cc) mn else .run (foldBy cc)⟩ = mn), StepOk FS 2 lens ⟨tn, Fv, T, if cc % 2 = 0 then .fold (foldBy cc) mn else .run (foldBy cc)⟩ := fun mm =>
    ⟨by show 0 ≤ (tn : Int); omega, by show (tn : Int).toNat < lens.length; omega, nn, le4, by rw [mm]; omega, by rw [mm]; omega, (fun f m z => by
      by_cases y : cc % 2 = 0
      · have z : (if cc % 2 = 0 then Kd.fold (foldBy cc) mn else .run (foldBy cc)) = .fold f m := z
        rw [if_pos y] at z
        injection z with z1 z2
        subst z1
        exact ⟨hfo, by show 0 < lens.getD (tn : Int).toNat 0; rw [ti.2.2 y]; decide⟩
      · have z : (if cc % 2 = 0 then Kd.fold (foldBy cc) mn else .run (foldBy cc)) = .fold f m := z
        rw [if_neg y] at z
        cases z), (fun f z => by
      by_cases y : cc % 2 = 0
      · have z : (if cc % 2 = 0 then Kd.fold (foldBy cc) mn else .run (foldBy cc)) = .run f := z
        rw [if_pos y] at z
        cases z
      · have z : (if cc % 2 = 0 then Kd.fold (foldBy cc) mn else .run (foldBy cc)) = .run f := z
        rw [if_neg y] at z
        injection z with z1
        subst z1
        exact hfo), fs_bodies, fun cs p hp h1 h2 => ⟨gv.wf cs p (by rw [mm] at hp; exact hp) h1 h2, fun F e => (hTg F e).wf cs p (by rw [mm] at hp; exact hp) h1 h2, fun F m z => by
      have z : (if cc % 2 = 0 then Kd.fold (foldBy cc) mn else .run (foldBy cc)) = .put F m := z
      split at z <;> cases z⟩⟩
  have fin2 : ∀ (J5 : Hp) (x dx : Addr), manyOf lens ⟨tn, Fv, T, if cc % 2 = 0 then .fold (foldBy cc) mn else .run (foldBy cc)⟩ = mn → Same J4 J5 → J5 x = some (.ins (q.of (if cc % 2 = 0 then .fold (foldBy cc) mn else .run (foldBy cc))) dx (ST.fieldsOf ⟨tn, Fv, T, if cc % 2 = 0 then .fold (foldBy cc) mn else .run (foldBy cc)⟩ v 0 tv)) → Q (.ref x) J5 := fun J5 x dx mm s5 ex =>
    fin J5 x ⟨tn, Fv, T, if cc % 2 = 0 then .fold (foldBy cc) mn else .run (foldBy cc)⟩ (s4.trans s5) ⟨dx, v, 0, tv, ex, fv.same s5, (by
      cases T with
      | none => exact hT2
      | some F => obtain ⟨u, a, b⟩ := hT2; exact ⟨u, a, b.same s5⟩), fun F m z => by
      have z : (if cc % 2 = 0 then Kd.fold (foldBy cc) mn else .run (foldBy cc)) = .put F m := z
      split at z <;> cases z⟩ rfl rfl hTt ⟨gv.wo, fun F e => (hTg F e).wo, fun F m z => by
      have z : (if cc % 2 = 0 then Kd.fold (foldBy cc) mn else .run (foldBy cc)) = .put F m := z
      split at z <;> cases z⟩ (okF mm)
  clear fin okF
  refine ⟨_, rfl, _, _, rfl, rfl, (by show (0 : Int) < 2; decide), rfl, _, rfl, ?_⟩
  rw [intEq]
  refine ite2 (fun z => ?_) (fun z => ?_)
  · have z : cc % 2 = 0 := by simpa using z
    rw [if_pos z] at fin2
    refine ⟨_, rfl, _, _, rfl, rfl, (by show (0 : Int) < 3; decide), rfl, _, rfl, ?_⟩
    rw [intEq]
    refine ite2 (fun z1 => ?_) (fun z1 => ?_)
    · have z1 : cc % 3 = 1 := by simpa using z1
      have eT : T = none := hTt.mpr (by omega)
      subst eT
      have ht : tv = .non := hT2
      subst ht
      refine ⟨_, rfl, _, rfl, cc, rfl, fun J5 s5 => ⟨_, rfl, _, rfl, fun x dx nx ndx _ => ⟨x, dx, _, _, _, _, _, rfl, upd_same, fun J6 k6 e6 => ⟨rfl, ?_⟩⟩⟩⟩
      exact fin2 J6 x dx rfl (s5.trans (made_same nx ndx k6)) e6
    · refine ⟨_, rfl, _, rfl, cc, rfl, fun J5 s5 => ⟨_, rfl, _, rfl, _, rfl, fun x dx nx ndx _ => ⟨x, dx, _, _, _, _, _, rfl, upd_same, fun J6 k6 e6 => ⟨rfl, ?_⟩⟩⟩⟩
      exact fin2 J6 x dx rfl (s5.trans (made_same nx ndx k6)) e6
  · have z : ¬ cc % 2 = 0 := by simpa using z
    rw [if_neg z] at fin2
    have mm : manyOf lens ⟨(tn : Int), Fv, T, .run (foldBy cc)⟩ = mn := (mt z).symm
    refine ⟨_, rfl, _, _, rfl, rfl, (by show (0 : Int) < 3; decide), rfl, _, rfl, ?_⟩
    rw [intEq]
    refine ite2 (fun z1 => ?_) (fun z1 => ?_)
    · have z1 : cc % 3 = 1 := by simpa using z1
      have eT : T = none := hTt.mpr (by omega)
      subst eT
      have ht : tv = .non := hT2
      subst ht
      refine ⟨_, rfl, _, rfl, cc, rfl, fun J5 s5 => ⟨_, rfl, fun x dx nx ndx _ => ⟨x, dx, _, _, _, _, rfl, upd_same, fun J6 k6 e6 => ⟨rfl, ?_⟩⟩⟩⟩
      exact fin2 J6 x dx mm (s5.trans (made_same nx ndx k6)) e6
    · refine ⟨_, rfl, _, rfl, cc, rfl, fun J5 s5 => ⟨_, rfl, _, rfl, fun x dx nx ndx _ => ⟨x, dx, _, _, _, _, rfl, upd_same, fun J6 k6 e6 => ⟨rfl, ?_⟩⟩⟩⟩
      exact fin2 J6 x dx mm (s5.trans (made_same nx ndx k6)) e6
end
end K16

namespace K16
open PySem L2 FM ST
section
variable {P : Program} {w : World} {K : PySem.W.Frag} {mg : Str → Option Value} {base : Heap}
structure TysK (K : PySem.W.Frag) (mg : Str → Option Value) : Prop where
  tu : mg "tuple" = none
  li : mg "list" = none
  st : mg "str" = none
  ktt : PySem.W.kitOne K (.type "tuple") (.type "tuple") = some true
  kll : PySem.W.kitOne K (.type "list") (.type "list") = some true
  kss : PySem.W.kitOne K (.type "str") (.type "str") = some true
/-- what is told, at t: the cells at c, and None or the refusal -/
def ToldAt (H : Hp) (t : Addr) (cs : List Int) (r : Option (Int × Int × Str)) : Prop := ∃ c, H c = some (.lst (cs.map V.int)) ∧ match r with
  | none => H t = some (.tup [.ref c, .non])
  | some (n, p, s) => ∃ u, H t = some (.tup [.ref c, .ref u]) ∧ H u = some (.tup [.int n, .int p, .str s])
theorem ToldAt.same {H H' : Hp} {t : Addr} {cs : List Int} {r : Option (Int × Int × Str)} (h : ToldAt H t cs r) (s : Same H H') : ToldAt H' t cs r := by
  obtain ⟨c, a, b⟩ := h
  refine ⟨c, s _ _ a, ?_⟩
  cases r with
  | none => exact s _ _ b
  | some pe => obtain ⟨u, b1, b2⟩ := b; exact ⟨u, s _ _ b1, s _ _ b2⟩
theorem told_two {H : Hp} {t1 t2 : Addr} {cs : List Int} {r : Option (Int × Int × Str)} (a1 : ToldAt H t1 cs r) (a2 : ToldAt H t2 cs r) : ∃ c1 c2 x1 x2, H c1 = some (.lst (cs.map V.int)) ∧ H c2 = some (.lst (cs.map V.int)) ∧ H t1 = some (.tup [.ref c1, x1]) ∧ H t2 = some (.tup [.ref c2, x2]) ∧
    ((x1 = .non ∧ x2 = .non) ∨ ∃ n p s u1 u2, r = some (n, p, s) ∧ x1 = .ref u1 ∧ x2 = .ref u2 ∧ H u1 = some (.tup [.int n, .int p, .str s]) ∧ H u2 = some (.tup [.int n, .int p, .str s])) := by
  obtain ⟨c1, hc1, b1⟩ := a1
  obtain ⟨c2, hc2, b2⟩ := a2
  cases r with
  | none => exact ⟨c1, c2, _, _, hc1, hc2, b1, b2, .inl ⟨rfl, rfl⟩⟩
  | some pe =>
    obtain ⟨u1, p1, p2⟩ := b1
    obtain ⟨u2, q1, q2⟩ := b2
    exact ⟨c1, c2, _, _, hc1, hc2, p1, q1, .inr ⟨_, _, _, u1, u2, rfl, rfl, rfl, p2, q2⟩⟩
def kinds3 : List Str := ["nought", "outside", "endless"]
/-- a refusal's kind is one of the three -/
def KindIn (r : Option (Int × Int × Str)) : Prop := ∀ n p s, r = some (n, p, s) → s ∈ kinds3
def dR (n p : Int) (s : Str) : PyData := .tuple [.int n, .int p, .str s]
theorem dr_dv {H : Hp} {t : Addr} {n p : Int} {s : Str} (h : H t = some (.tup [.int n, .int p, .str s])) : DV K H (.ref t) (dR n p s) := .tup (SqT.of h) (.cons (.int _) (.cons (.int _) (.cons (.str _) .nil)))
theorem dr_lay {n p : Int} {s : Str} (h : s ∈ kinds3) : (dR n p s).canLay0 = true := by
  simp only [kinds3, List.mem_cons, List.not_mem_nil, or_false] at h
  rcases h with rfl | rfl | rfl <;> (simp [dR, PyData.canLay0, PyData.canLayAll0]; try decide +kernel)
theorem dr_dep {n p : Int} {s : Str} : (dR n p s).depth ≤ 64 := Nat.le_trans (dep_tup (n := 2) (dep_cons (by show PyData.depth (.int _) ≤ 2; simp [PyData.depth]) (dep_cons (by show PyData.depth (.int _) ≤ 2; simp [PyData.depth]) (dep_cons (by show PyData.depth (.str _) ≤ 2; simp [PyData.depth]) dep_nil)))) (by decide)
def spTold : Sp := fun vs H Q _ => ∃ (t1 t2 : Addr) (cs : List Int) (r : Option (Int × Int × Str)), vs = [.ref t1, .ref t2] ∧ KindIn r ∧ ToldAt H t1 cs r ∧ ToldAt H t2 cs r ∧ Q (.bl true) H
theorem ok_told (d : DefIn K mg "_law_told" s_l_told ["_law_found", "_law_due_here"]) (hlen : mg "len" = none) (N : Ints K mg) (T : TysK K mg) (WH : Ok P w K mg base (CXe P w base) 1 "_law_whole" ["_law_found"] (sp1 fun _ => .bl true)) :
    Ok P w K mg base CX0 2 "_law_told" ["_law_found", "_law_due_here"] spTold := by
  obtain ⟨g, fd, m, F, b⟩ := d
  refine ⟨g, fd, m, F.kp, b, F.ok sc_l_told (fun vs H Q E ⟨_, _, _, _, e, _⟩ => by rw [e]; rfl) fun cdv A outer s H vs Q E hr h => ?_⟩
  obtain ⟨t1, t2, cs, r, rfl, hK, a1, a2, k⟩ := h
  have nd := sc_l_told.nd
  have hr1 := hr
  have hu := hr.units
  have htu := T.tu
  have hli := T.li
  have hst := T.st
  refine ⟨_, (pss_cons (ps_if (pw_or (pt_not (pt_val (pe_callB call_isinst (by rfl) N.isi PyProof.Rows.boot_isinstance (pa_cons (pv 0) (pa_cons (pe_bty htu PyProof.Rows.boot_tuple) pa_nil))))) (pw_or (pt_cmpR op_ne (pe_callB call_len_seq (by rfl) hlen PySem.boot_len (pa_cons (pv 0) pa_nil)) pe_int (nomark _)) (pw_or1 (pt_not (pt_val (pe_callB call_isinst (by rfl) N.isi PyProof.Rows.boot_isinstance (pa_cons (pe_ix ix_tup (pv 0) pe_int (fun _ _ => rfl)) (pa_cons (pe_bty hli PyProof.Rows.boot_list) pa_nil)))))))).pt (pss_one (ps_ret pe_bl)) pss_nil)
      (pss_cons (ps_for PassesOwn.never rfl (pi_list (pe_ix ix_tup (pv 0) pe_int (fun _ _ => rfl))) (pg_name (i := 2) nd rfl (Or.inl rfl)) (pss_one (ps_if (pt_not (pt_val (pe_ok WH hr1 (by rfl) passF (pa_cons (pv 2) pa_nil)))) (pss_one (ps_ret pe_bl)) pss_nil)))
      (pss_cons (ps_if (pw_or (pt_cmpR op_isN (pe_ix ix_tup (pv 1) pe_int (fun _ _ => rfl)) pe_non (nomark _)) (pw_or1 (pt_cmpR op_isN (pe_ix ix_tup (pv 0) pe_int (fun _ _ => rfl)) pe_non (nomark _)))).pt (pss_one (ps_ret (pe_and (pe_cmpR (op_eqD hu) (pe_ix ix_tup (pv 0) pe_int (fun _ _ => rfl)) (pe_ix ix_tup (pv 1) pe_int (fun _ _ => rfl)) (nomark _)) (pe_and (pe_cmpR op_isN (pe_ix ix_tup (pv 0) pe_int (fun _ _ => rfl)) pe_non (nomark _)) (pe_one (pe_cmpR op_isN (pe_ix ix_tup (pv 1) pe_int (fun _ _ => rfl)) pe_non (nomark _))))))) pss_nil)
      (pss_cons (ps_if (pw_or (pt_not (pt_val (pe_callB call_isinst (by rfl) N.isi PyProof.Rows.boot_isinstance (pa_cons (pe_ix ix_tup (pv 0) pe_int (fun _ _ => rfl)) (pa_cons (pe_bty htu PyProof.Rows.boot_tuple) pa_nil))))) (pw_or (pt_cmpR op_ne (pe_callB call_len_seq (by rfl) hlen PySem.boot_len (pa_cons (pe_ix ix_tup (pv 0) pe_int (fun _ _ => rfl)) pa_nil)) pe_int (nomark _)) (pw_or1 (pt_not (pt_val (pe_callB call_isinst (by rfl) N.isi PyProof.Rows.boot_isinstance (pa_cons (pe_ix ix_tup (pe_ix ix_tup (pv 0) pe_int (fun _ _ => rfl)) pe_int (fun _ _ => rfl)) (pa_cons (pe_bty hst PyProof.Rows.boot_str) pa_nil)))))))).pt (pss_one (ps_ret pe_bl)) pss_nil)
      (pss_one (ps_ret (pe_and (pe_ok WH hr1 (by rfl) passF (pa_cons (pe_ix ix_tup (pe_ix ix_tup (pv 0) pe_int (fun _ _ => rfl)) pe_int (fun _ _ => rfl)) pa_nil)) (pe_and (pe_ok WH hr1 (by rfl) passF (pa_cons (pe_ix ix_tup (pe_ix ix_tup (pv 0) pe_int (fun _ _ => rfl)) pe_int (fun _ _ => rfl)) pa_nil)) (pe_and (pe_cmpR (op_eqD hu) (pe_ix ix_tup (pv 0) pe_int (fun _ _ => rfl)) (pe_ix ix_tup (pv 1) pe_int (fun _ _ => rfl)) (nomark _)) (pe_one (pe_cmpR (op_eqD hu) (pe_ix ix_tup (pv 0) pe_int (fun _ _ => rfl)) (pe_ix ix_tup (pv 1) pe_int (fun _ _ => rfl)) (nomark _)))))))))))), ?_⟩
  obtain ⟨c1, c2, x1, x2, hc1, hc2, e1, e2, xx⟩ := told_two a1 a2
  refine ⟨_, rfl, _, _, .type "tuple", .type "tuple", true, rfl, rfl, (fun u r => r), .inl (.tup e1), T.ktt, true, rfl, iteF ?_⟩
  refine ⟨_, rfl, t1, _, rfl, .inr (SqT.of e1), rfl, _, rfl, iteNS rfl ?_⟩
  refine ⟨_, rfl, t1, _, 0, .ref c1, rfl, rfl, SqT.of e1, rfl, _, _, .type "list", .type "list", true, rfl, rfl, (fun u r => r), .inl (.lst hc1), T.kll, true, rfl, iteF ?_⟩
  refine ⟨_, rfl, t1, _, 0, .ref c1, rfl, rfl, SqT.of e1, rfl, c1, rfl, ⟨_, SqL.of hc1⟩, ?_⟩
  refine for_list (K := K) (a := c1) (xs := cs.map V.int) (fun i σ H2 => ∃ u, σ = [some (.ref t1), some (.ref t2), u] ∧ H2 = H) ⟨none, rfl, rfl⟩ (fun i σ H2 _ ⟨_, _, e⟩ => by rw [e]; exact SqL.of hc1) ?_ ?_
  · rintro i x σ H2 hi ⟨u, rfl, rfl⟩
    obtain ⟨hlt, rfl⟩ := map_int_at hi
    exact ⟨_, rfl, _, rfl, true, rfl, iteF ⟨_, rfl, rfl⟩⟩
  · rintro σ H2 ⟨u, rfl, rfl⟩
    refine ⟨_, rfl, t2, _, 1, x2, rfl, rfl, SqT.of e2, rfl, rfl, _, rfl, ?_⟩
    rcases xx with ⟨rfl, rfl⟩ | ⟨n, p, s3, u1, u2, er, rfl, rfl, f1, f2⟩
    · refine iteT ?_
      refine ⟨_, rfl, t1, _, 0, .ref c1, rfl, rfl, SqT.of e1, rfl, _, rfl, t2, _, 0, .ref c2, rfl, rfl, SqT.of e2, rfl, dI cs, dI cs, dv_ints (SqL.of hc1), dv_ints (SqL.of hc2), lay_ints, lay_ints, Nat.le_trans dep_ints (by decide), ?_⟩
      rw [SeqAt.eqv_refl _ lay_ints]
      refine ⟨true, rfl, iteT ?_⟩
      refine ⟨_, rfl, t1, _, 1, .non, rfl, rfl, SqT.of e1, rfl, rfl, true, rfl, iteT ?_⟩
      exact ⟨_, rfl, t2, _, 1, .non, rfl, rfl, SqT.of e2, rfl, rfl, k⟩
    · refine iteF ?_
      refine ⟨_, rfl, t1, _, 1, .ref u1, rfl, rfl, SqT.of e1, rfl, rfl, _, rfl, iteF ?_⟩
      refine ⟨_, rfl, t1, _, 1, .ref u1, rfl, rfl, SqT.of e1, rfl, _, _, .type "tuple", .type "tuple", true, rfl, rfl, (fun u r => r), .inl (.tup f1), T.ktt, true, rfl, iteF ?_⟩
      refine ⟨_, rfl, t1, _, 1, .ref u1, rfl, rfl, SqT.of e1, rfl, u1, _, rfl, .inr (SqT.of f1), rfl, _, rfl, iteNS rfl ?_⟩
      refine ⟨_, rfl, t1, _, 1, .ref u1, rfl, rfl, SqT.of e1, rfl, u1, _, 2, .str s3, rfl, rfl, SqT.of f1, rfl, _, _, .type "str", .type "str", true, rfl, rfl, (fun u r => r), .inl (.str _), T.kss, true, rfl, iteF ?_⟩
      refine ⟨_, rfl, t1, _, 1, .ref u1, rfl, rfl, SqT.of e1, rfl, u1, _, 0, .int n, rfl, rfl, SqT.of f1, rfl, n, rfl, true, rfl, iteT ?_⟩
      refine ⟨_, rfl, t1, _, 1, .ref u1, rfl, rfl, SqT.of e1, rfl, u1, _, 1, .int p, rfl, rfl, SqT.of f1, rfl, p, rfl, true, rfl, iteT ?_⟩
      refine ⟨_, rfl, t1, _, 0, .ref c1, rfl, rfl, SqT.of e1, rfl, _, rfl, t2, _, 0, .ref c2, rfl, rfl, SqT.of e2, rfl, dI cs, dI cs, dv_ints (SqL.of hc1), dv_ints (SqL.of hc2), lay_ints, lay_ints, Nat.le_trans dep_ints (by decide), ?_⟩
      rw [SeqAt.eqv_refl _ lay_ints]
      refine ⟨true, rfl, iteT ?_⟩
      refine ⟨_, rfl, t1, _, 1, .ref u1, rfl, rfl, SqT.of e1, rfl, _, rfl, t2, _, 1, .ref u2, rfl, rfl, SqT.of e2, rfl, dR n p s3, dR n p s3, dr_dv f1, dr_dv f2, dr_lay (hK _ _ _ er), dr_lay (hK _ _ _ er), dr_dep, ?_⟩
      rw [SeqAt.eqv_refl _ (dr_lay (hK _ _ _ er))]
      exact k
end
end K16

namespace K16
open PySem L2 FM ST
def rCatQ (K : PySem.W.Frag) : R2 := fun x y H Q => ∃ l b xs zs, x = .ref l ∧ y = .ref b ∧ SqL K H l xs ∧ SqL K H b zs ∧ xs.length + zs.length ≤ sizeLine ∧ ∀ p, H p = none → Q (.ref p) (upd H p (.lst (xs ++ zs)))
theorem op_catQ {X : Cx} : OpR X (binaryOp .Add) (rCatQ X.K) := by
  intro pins s σ H x y v u Q I rx ry h
  obtain ⟨l, b, xs, zs, rfl, rfl, hl, hb, hz, q⟩ := h
  cases (show v = Value.ref l from rx)
  cases (show u = Value.ref b from ry)
  obtain ⟨i1, r1, ⟨⟨c1, d1, e1, f1⟩, n1, o1, k1, _, g1⟩, _⟩ := I.list hl
  obtain ⟨i2, r2, ⟨⟨c2, d2, e2, f2⟩, n2, o2, k2, _, g2⟩, _⟩ := I.list hb
  simp only at k1 g1 k2 g2
  subst k1 g1 k2 g2
  have ea : i1.toArray ++ i2.toArray = (i1 ++ i2).toArray := by simp
  have z1 := r1.length
  have z2 := r2.length
  refine PySem.concat_meets ⟨_, o1, rfl⟩ ⟨_, o2, rfl⟩ PySem.noFill_list_add PySem.seq_list_add PySem.F.slot_list_add PySem.F.entry_list_add (PySem.F.args_list_add_2 _ _) (PyProof.Rows.list_addW l b i1.toArray i2.toArray n1 n2 d1 d2 f1 f2 (by simp only [List.size_toArray]; omega)) ⟨o1, o2, ?_⟩
  rw [ea]
  exact ⟨.ref s.heap.objs.size, _, I.lnew (t' := s.toks) (r1.append r2) (by rw [List.length_append]; exact hz), rfl, q _ I.fresh⟩
section
variable {P : Program} {w : World} {K : PySem.W.Frag} {mg : Str → Option Value} {base : Heap}
theorem sql_but {H : Hp} {x a C dx : Addr} {fl : List (Str × V)} {xs : List V} (hx : H x = some (.ins C dx fl)) (h : SqL K H a xs) : SqL K (but H [x]) a xs := by
  rcases h with (z | ⟨o, z⟩) | z
  · exact .inl (.inl (but_of z (fun e => by cases List.mem_singleton.mp e; rw [hx] at z; cases z)))
  · exact .inl (.inr ⟨o, but_of z (fun e => by cases List.mem_singleton.mp e; rw [hx] at z; cases z)⟩)
  · exact .inr z
def spI_Prog (K : PySem.W.Frag) (C : Addr) : Sp := fun vs H Q _ => ∃ (x dx a b c : Addr) (xs ys zs : List V), vs = [.ref x, .ref a, .ref b, .ref c] ∧ H x = some (.ins C dx []) ∧ SqL K H a xs ∧ SqL K H b ys ∧ SqL K H c zs ∧ ∀ H' la lb lc, (∀ b o, b ≠ x → H b = some o → H' b = some o) → H' la = some (.lst xs) → H' lb = some (.lst ys) → H' lc = some (.lst zs) → H' x = some (.ins C dx [("lengths", .ref la), ("functions", .ref lb), ("steps", .ref lc)]) → Q .non H'
theorem okI_Prog {C : Addr} (d : InitIn K C "Program.__init__" s_Program_init ["self", "lengths", "functions", "steps"]) (hlist : mg "list" = none) (pc : ProgC K C) : OkI P w K mg base (CXe P w base) 1 C ["self", "lengths", "functions", "steps"] (spI_Prog K C) := by
  obtain ⟨f, fd, m, F, bd⟩ := d
  refine ⟨f, fd, m, bd, F.okE sc_Program_init (fun vs H Q E ⟨_, _, _, _, _, _, _, _, e, _⟩ => by rw [e]; rfl) fun cdv A outer s H vs Q E hr h => ?_⟩
  obtain ⟨x, dx, a, b, c, xs, ys, zs, rfl, hx, ha, hb, hc, k⟩ := h
  refine ⟨_, (pss_cons (ps_fld (pv 0) (pe_callTy call_list_of (by rfl) hlist PyProof.Rows.boot_list (pa_cons (pv 1) pa_nil)) rfl)
      (pss_cons (ps_fld (pv 0) (pe_callTy call_list_of (by rfl) hlist PyProof.Rows.boot_list (pa_cons (pv 2) pa_nil)) rfl)
      (pss_one (ps_fld (pv 0) (pe_callTy call_list_of (by rfl) hlist PyProof.Rows.boot_list (pa_cons (pv 3) pa_nil)) rfl)))), ?_⟩
  have h := Hd.but1 hx
  have ha := sql_but hx ha
  have hb := sql_but hx hb
  have hc := sql_but hx hc
  have nb : ∀ b' o, b' ≠ x → H b' = some o → but H [x] b' = some o := fun b' o n z => but_of z (fun e => n (List.mem_singleton.mp e))
  refine ⟨_, rfl, a, _, rfl, .inl (h.sql ha), fun la nla => ?_⟩
  have h := h.new (o := .lst xs) nla
  refine ⟨_, rfl, x, C, dx, [], rfl, h.get 1 rfl, pc.c, pc.n0, (by show 0 < 1000; decide), ?_⟩
  have h := h.put (o' := .ins C dx [("lengths", .ref la)]) 1 rfl
  refine ⟨_, rfl, b, _, rfl, .inl (h.sql hb), fun lb nlb => ?_⟩
  have h := h.new (o := .lst ys) nlb
  refine ⟨_, rfl, x, C, dx, [("lengths", .ref la)], rfl, h.get 2 rfl, pc.c, pc.n1, (by show 1 < 1000; decide), ?_⟩
  have h := h.put (o' := .ins C dx [("lengths", .ref la), ("functions", .ref lb)]) 2 rfl
  refine ⟨_, rfl, c, _, rfl, .inl (h.sql hc), fun lc nlc => ?_⟩
  have h := h.new (o := .lst zs) nlc
  refine ⟨_, rfl, x, C, dx, [("lengths", .ref la), ("functions", .ref lb)], rfl, h.get 3 rfl, pc.c, pc.n2, (by show 2 < 1000; decide), ?_⟩
  have h := h.put (o' := .ins C dx [("lengths", .ref la), ("functions", .ref lb), ("steps", .ref lc)]) 3 rfl
  exact k _ la lb lc (fun b' o n z => h.sm _ _ (nb b' o n z)) (h.get 2 rfl) (h.get 1 rfl) (h.get 0 rfl) (h.get 3 rfl)
theorem finp {B : Hp} {r : R} {Q : VK} (q : ∀ H' t, Same B H' → ToldAt H' t r.1 r.2 → Q (.ref t) H') : FinP B r Q := by
  obtain ⟨cs, r⟩ := r
  cases r with
  | none => exact fun H' t ca h => q H' t h.sm ⟨ca, h.get 1 rfl, h.get 0 rfl⟩
  | some pe => exact fun H' t u ca h => q H' t h.sm ⟨ca, h.get 2 rfl, u, h.get 0 rfl, h.get 1 rfl⟩
theorem kind_one {fs : List F2.Fn} {k : Nat} {lens : List Int} {L : StepD} {num : Int} : ∀ (n p : Nat) (rv : Option Int) (cs : List Int), KindIn (outR num (runS fs k lens L n p rv cs)).2
  | 0, _, _, _ => fun a b s e => by cases e
  | n + 1, p, rv, cs => by
    unfold runS
    cases z : elOf fs k ⟨lens, cs, p, []⟩ L rv with
    | skip => exact kind_one n (p + 1) rv cs
    | lay j v => exact kind_one n (p + 1) (some v) _
    | no e =>
      intro a b s h
      injection h with h
      injection h with h1 h2
      injection h2 with h3 h4
      subst h4
      cases e with
      | ok m => exact absurd z el_no_ok
      | nought => exact .head _
      | outside => exact .tail _ (.head _)
end
end K16

namespace K16
open PySem L2 FM ST
theorem pass_no_ok {fs : List F2.Fn} {k : Nat} {S : SpotD} {L : StepD} {n : Int} : passOf fs k S L ≠ .no (.ok n) := by
  intro hp
  unfold passOf at hp
  split at hp
  · cases hp
  · split at hp
    · cases hp
    · rename_i z; injection hp with hp; exact z n hp
/-- an element of a Fold or a Running -/
theorem el_fr {fs : List F2.Fn} {k : Nat} {S : SpotD} {L : StepD} {rv : Option Int} (hk : isP L.kind = false) : elOf fs k S L rv = (match elA fs k S L with
    | none => .skip
    | some (.ok n) => .lay (if isF L.kind = true then 0 else S.place) (numOf S L rv n)
    | some e => .no e) := by
  have ep : ST.placeOf fs k S L = .ok (if isF L.kind = true then 0 else S.place) := by
    unfold ST.placeOf
    cases e : L.kind with
    | put _ _ => rw [e] at hk; cases hk
    | fold _ _ => rfl
    | let' => rfl
    | run _ => rfl
  unfold elOf elA
  rw [ep]
  cases z : passOf fs k S L with
  | b v =>
    cases v with
    | true => rfl
    | false =>
      dsimp only
      cases y : F2.worth fs k S L.value with
      | nought => rfl
      | outside => rfl
      | ok n => rfl
  | no e =>
    cases e with
    | ok n => exact absurd z pass_no_ok
    | nought => rfl
    | outside => rfl
section
variable {P : Program} {w : World} {K : PySem.W.Frag} {mg : Str → Option Value} {base : Heap}
def spDueR (P : Program) (w : World) (K : PySem.W.Frag) (mg : Str → Option Value) (base : Heap) (c : F2.Cs) (CN OU : Addr) (q : Scs) (M : Kd → Prop) (rm : Nat) : Sp := fun vs H Q _ => ∃ (x la fa ca : Addr) (fs : List F2.Fn) (k : Nat) (lens cs : List Int) (L : StepD), vs = [.ref x, .ref la, .ref fa, .ref ca, .int (manyOf lens L)] ∧ M L.kind ∧ ((∃ f m, L.kind = .fold f m) ∨ ∃ f, L.kind = .run f) ∧ StepAt c q H L x ∧ SqL K H la (lens.map V.int) ∧ F2.FunsAt c K H fa fs ∧ SqL K H ca (cs.map V.int) ∧ StepW P w K mg base c CN OU rm fs k L ∧ StepOk fs k lens L ∧ CellsOk lens cs ∧
  FinP H (oneR fs k lens L 0 cs) Q
theorem ok_dueR {c : F2.Cs} {CN OU : Addr} {q : Scs} {M : Kd → Prop} {rm : Nat} (d : DefIn K mg "_law_due" s_l_due ["_law_step", "_law_lengths", "_law_functions_here", "_law_cells", "_law_many"]) (hlist : mg "list" = none) (hrg : mg "range" = none) (hsum : mg "sum" = none) (hisi : mg "isinstance" = none) (sc : SpotC K c.spot) (G : StepsK K mg q M) (hCs : mg "Spot" = some (.ref c.spot))
    (IS : OkI P w K mg base (CXe P w base) 1 c.spot ["self", "lengths", "functions", "cells", "place", "own"] (spI_Spot c.spot)) (LJ : Ok P w K mg base CX0 1 "_law_joined" ["_law_fold", "_law_run", "_law_number"] spLJ) (EL : Ok P w K mg base (CXe P w base) (rm + 2) "_law_element" ["_law_step", "_law_spot"] (spElL P w K mg base c CN OU q M rm)) :
    Ok P w K mg base CX0 (rm + 3) "_law_due" ["_law_step", "_law_lengths", "_law_functions_here", "_law_cells", "_law_many"] (spDueR P w K mg base c CN OU q M rm) := by
  obtain ⟨g, fd, m, F, bd⟩ := d
  refine ⟨g, fd, m, F.kp, bd, F.ok sc_l_due (fun vs H Q E ⟨_, _, _, _, _, _, _, _, _, e, _⟩ => by rw [e]; rfl) fun cdv A outer s H vs Q E hr h => ?_⟩
  obtain ⟨x, la, fa, ca, fs, k, lens, cs, L, rfl, hM, hk, hL, hl, hf, hca, hW, hO, hC, fin⟩ := h
  have nd := sc_l_due.nd
  have hrE := hr
  have hr1 : Room 1 _ := hr.mono (by omega)
  have hr2 : Room 2 _ := hr.mono (by omega)
  obtain ⟨dxl, v, pl, t, hx, hv, ht, hp⟩ := hL.ex
  have g1 := G.c _ hM
  have v0 := hO.m0
  have v4 := hO.m1
  have t0 := hO.t0
  have nP : isP L.kind = false := by rcases hk with ⟨f, m, e⟩ | ⟨f, e⟩ <;> rw [e] <;> rfl
  -- the fold's name
  obtain ⟨fo, hfo, ef, nf, nu⟩ : ∃ fo : Str, fo ∈ ST.folds ∧ (ST.fieldsOf L v pl t).lookup ("fold" : Str) = some (.str fo) ∧ NoAttr K (q.of L.kind) "fold" ∧ ∀ (S : SpotD) (rv : Option Int) (n : Int), numOf S L rv n = if isF L.kind = true then joinR fo (S.cellAt L.target 0) n else (match rv with
      | some r => joinR fo r n
      | none => n) := by
    rcases hk with ⟨f, m, e⟩ | ⟨f, e⟩
    · refine ⟨f, (hO.fo f m e).1, by unfold ST.fieldsOf; rw [e]; rfl, by have := g1.nF (by rw [e]; rfl); rw [e]; exact this, fun S rv n => ?_⟩
      unfold numOf
      rw [e]
      exact (if_pos rfl).symm
    · refine ⟨f, hO.ru f e, by unfold ST.fieldsOf; rw [e]; rfl, by have := g1.nR (by rw [e]; rfl); rw [e]; exact this, fun S rv n => ?_⟩
      unfold numOf
      rw [e]
      cases rv with
      | none => exact (if_neg (fun z => by cases z)).symm
      | some r => exact (if_neg (fun z => by cases z)).symm
  refine ⟨_, (pss_cons (ps_set (i := 5) nd rfl (Or.inl rfl) (pe_callTy call_list_of (by rfl) hlist PyProof.Rows.boot_list (pa_cons (pv 3) pa_nil)))
      (pss_cons (ps_set (i := 6) nd rfl (Or.inl rfl) (pe_callB (call_sum rfl) (by rfl) hsum PyProof.Rows.boot_sum (pa_cons (pe_slice sl_list (pv 1) po_none (po_some (pe_fld (pv 0) rfl))) pa_nil)))
      (pss_cons (ps_set (i := 7) nd rfl (Or.inl rfl) pe_non)
      (pss_cons (ps_for PassesOwn.never rfl (pi_range1 rfl hrg (pa_cons (pv 4) pa_nil)) (pg_name (i := 8) nd rfl (Or.inl rfl)) (pss_cons (ps_set (i := 9) nd rfl (Or.inl rfl) (pe_ok EL hrE (by rfl) passF (pa_cons (pv 0) (pa_cons (pe_okI IS hCs hr2 (by rfl) passF (pa_cons (pv 1) (pa_cons (pv 2) (pa_cons (pv 5) (pa_cons (pv 8) (pa_cons (pe_lst pa_nil) pa_nil)))))) pa_nil))))
      (pss_cons (ps_if (pt_cmpR op_isN (pv 9) pe_non (nomark _)) (pss_one ps_continue) pss_nil)
      (pss_cons (ps_if (pt_cmpR op_ne (pe_ix ix_tup (pv 9) pe_int (fun _ _ => rfl)) pe_str (nomark _)) (pss_one (ps_ret (pe_tup (pa_cons (pv 5) (pa_cons (pe_tup (pa_cons pe_int (pa_cons (pv 8) (pa_cons (pe_ix ix_tup (pv 9) pe_int (fun _ _ => rfl)) pa_nil)))) pa_nil))))) pss_nil)
      (pss_one (ps_if (pt_val (pe_callB call_isinst (by rfl) hisi PyProof.Rows.boot_isinstance (pa_cons (pv 0) (pa_cons (pe_gref G.hFo) pa_nil)))) (pss_one (ps_asg (pe_ok LJ hr1 (by rfl) pass0 (pa_cons (pe_fld (pv 0) rfl) (pa_cons (pe_ix ix_list (pv 5) (pv 6) (fun _ _ => rfl)) (pa_cons (pe_ix ix_tup (pv 9) pe_int (fun _ _ => rfl)) pa_nil)))) (pg_sub (pv 5) (pv 6) set_list))) (pss_cons (ps_set (i := 7) nd rfl (Or.inl rfl) (pe_ifExp (pt_cmpR op_isN (pv 7) pe_non (nomark _)) (pe_ix ix_tup (pv 9) pe_int (fun _ _ => rfl)) (pe_ok LJ hr1 (by rfl) pass0 (pa_cons (pe_fld (pv 0) rfl) (pa_cons (pv 7) (pa_cons (pe_ix ix_tup (pv 9) pe_int (fun _ _ => rfl)) pa_nil))))))
      (pss_one (ps_asg (pv 7) (pg_sub (pv 5) (pe_op op_add (pv 6) (pv 8)) set_list))))))))))
      (pss_one (ps_ret (pe_tup (pa_cons (pv 5) (pa_cons pe_non pa_nil))))))))), ?_⟩
  refine ⟨_, rfl, ca, _, rfl, .inl hca, fun nw nnw => ?_⟩
  have h : Hd H [(nw, .lst (cs.map V.int))] _ := Hd.base.new nnw
  generalize upd H nw (.lst (cs.map V.int)) = H1 at h ⊢
  refine ⟨_, rfl, _, rfl, x, _, dxl, _, .int L.target, rfl, h.sm _ _ hx, g1.cl, g1.n0, fld_target, L.target, rfl, la, _, rfl, h.sql hl, fun sl nsl => ?_⟩
  rw [cutV_take hO.t0]
  have h : Hd H [(sl, .lst ((lens.take L.target.toNat).map V.int)), (nw, .lst (cs.map V.int))] _ := h.new nsl
  generalize upd H1 sl (.lst ((lens.take L.target.toNat).map V.int)) = H2 at h ⊢
  refine ⟨sl, lens.take L.target.toNat, rfl, h.lst 0 rfl, ?_⟩
  have h := h.tl
  refine ⟨_, rfl, _, rfl, (by show -(2 ^ 62) ≤ manyOf lens L; omega), (by show manyOf lens L < 2 ^ 62; omega), ?_⟩
  have fin : FinP H (outR 0 (runS fs k lens L (manyOf lens L).toNat 0 none cs)) Q := fin
  refine for_range (n := (manyOf lens L).toNat) (fun i σ J => ∃ (rv : Option Int) (rvv : V) (u8 u9 : Option V) (cs' : List Int), σ = [some (.ref x), some (.ref la), some (.ref fa), some (.ref ca), some (.int (manyOf lens L)), some (.ref nw), some (.int (startOf lens L.target)), some rvv, u8, u9] ∧ (isF L.kind = false → rvv = rvV rv) ∧ (isF L.kind = true → rvv = .non) ∧ (∀ r, rv = some r → Kin r) ∧ Hd H [(nw, .lst (cs'.map V.int))] J ∧ CellsOk lens cs' ∧ FinP H (outR 0 (runS fs k lens L ((manyOf lens L).toNat - i) i rv cs')) Q) ⟨none, .non, none, none, cs, rfl, (fun _ => rfl), (fun _ => rfl), (fun r e => by cases e), h, hC, fin⟩ ?_ ?_
  · skip
    rintro i σ J hi ⟨rv, rvv, u8, u9, cs, rfl, hv1, hv2, hrv, h, hC, fin⟩
    obtain ⟨so, eo⟩ := spot_ok (p := i) (rv := rv) hO hC (by omega) hrv
    refine ⟨_, rfl, _, rfl, _, rfl, _, rfl, _, rfl, (by show 0 ≤ sizeLine; decide), fun l2 n2 => ?_⟩
    have h : Hd H [(l2, .lst (([] : List Int).map V.int)), (nw, .lst (cs.map V.int))] (upd J l2 (.lst [])) := h.new n2
    generalize upd J l2 (.lst []) = J1 at h ⊢
    refine fun xs dxs nxs ndxs ne => ⟨xs, dxs, _, _, _, _, _, rfl, upd_same, fun J2 k2 e2 => ⟨rfl, ?_⟩⟩
    have h := h.made0 nxs ndxs ne k2 e2
    have eS : (0 + (i : Int)) = (i : Int) := by omega
    rw [eS] at h ⊢
    have SA : F2.SpotAt c K J2 xs ⟨lens, cs, i, []⟩ fs := ⟨dxs, la, fa, nw, l2, h.get 0 rfl, h.sql hl, hf.same h.sm, h.lst 3 rfl, h.lst 2 rfl⟩
    obtain ⟨nn, hnn⟩ : ∃ nn, (manyOf lens L).toNat - i = nn + 1 := ⟨(manyOf lens L).toNat - i - 1, by omega⟩
    have hnn' : (manyOf lens L).toNat - (i + 1) = nn := by omega
    rw [hnn] at fin
    have rr : runS fs k lens L (nn + 1) i rv cs = (match elOf fs k ⟨lens, cs, i, []⟩ L rv with
      | .skip => runS fs k lens L nn (i + 1) rv cs
      | .lay j v => runS fs k lens L nn (i + 1) (some v) (cs.set (startOf lens L.target + j).toNat v)
      | .no e => (cs, some (i, e))) := rfl
    rw [rr] at fin
    have ep := el_fr (fs := fs) (k := k) (S := ⟨lens, cs, i, []⟩) (rv := rv) nP
    have h := h.tl.tl.tl
    have ret : ∀ (J3 : Hp) (t3 : Addr) (e : Res) (b : Int), Hd H [(nw, .lst (cs.map V.int))] J3 → J3 t3 = some (.tup [.str (kindS e), .int b]) → elOf fs k ⟨lens, cs, i, []⟩ L rv = .no e →
        tRet (tTup (tCons (tVar 5) (tCons (tTup (tCons (tC (.int 0)) (tCons (tVar 8) (tCons (tOp (rIxT K) (tVar 9) (tC (.int 0))) tNil)))) tNil))) { nx := fun _ H' => Q .non H', rt := Q } [some (.ref x), some (.ref la), some (.ref fa), some (.ref ca), some (.int (manyOf lens L)), some (.ref nw), some (.int (startOf lens L.target)), some rvv, some (.int (i : Int)), some (.ref t3)] J3 := by
      intro J3 t3 e b hh et ee
      rw [ee] at fin
      refine ⟨_, rfl, _, rfl, _, rfl, t3, _, 0, .str (kindS e), rfl, rfl, SqT.of et, rfl, (by show 3 ≤ sizeLine; decide), fun u nu => ⟨(by show 2 ≤ sizeLine; decide), fun t nt => ?_⟩⟩
      exact fin _ t u nw ((hh.new nu).new nt)
    refine ⟨x, xs, ⟨lens, cs, i, []⟩, fs, k, L, rfl, hM, SA, so, hL.same h.sm, hW, eo.wf, ?_⟩
    cases ea : elA fs k ⟨lens, cs, i, []⟩ L with
    | none =>
      rw [ea] at ep
      dsimp only at ep
      rw [ep] at fin
      intro J3 s3
      refine ⟨_, rfl, rfl, _, rfl, iteT ?_⟩
      exact ⟨rv, rvv, _, _, cs, rfl, hv1, hv2, hrv, h.same s3, hC, by rw [hnn']; exact fin⟩
    | some r =>
      rw [ea] at ep
      intro J3 t3 h3
      refine ⟨_, rfl, rfl, _, rfl, iteF ?_⟩
      have h := h.same h3.sm
      cases r with
      | nought =>
        refine ⟨_, rfl, t3, _, 0, .str "nought", rfl, rfl, h3.tup 0 rfl, rfl, rfl, _, rfl, iteT ?_⟩
        exact ret J3 t3 .nought 0 h (h3.get 0 rfl) ep
      | outside =>
        refine ⟨_, rfl, t3, _, 0, .str "outside", rfl, rfl, h3.tup 0 rfl, rfl, rfl, _, rfl, iteT ?_⟩
        exact ret J3 t3 .outside 0 h (h3.get 0 rfl) ep
      | ok n =>
        dsimp only at ep
        refine ⟨_, rfl, t3, _, 0, .str "", rfl, rfl, h3.tup 0 rfl, rfl, rfl, _, rfl, iteF ?_⟩
        rw [ep] at fin
        have kv := lay_kin hO.hb so eo ep
        have kn : Kin n := by
          have z : F2.worth fs k ⟨lens, cs, i, []⟩ L.value = .ok n := by
            unfold elA at ea
            cases y : passOf fs k ⟨lens, cs, i, []⟩ L with
            | b v => rw [y] at ea; cases v with
              | true => cases ea
              | false => injection ea
            | no e => rw [y] at ea; injection ea with ea; subst ea; exact absurd y pass_no_ok
          exact F2.worth_kin hO.hb so eo.wf.v z
        have e3 : J3 t3 = some (.tup [.str "", .int n]) := h3.get 0 rfl
        refine ⟨_, rfl, _, _, .ref q.fold, _, isF L.kind, rfl, rfl, (fun u r => r), step_ty g1 (h.sm _ _ hx), g1.kF, _, rfl, ?_⟩
        by_cases bF : isF L.kind = true
        · rw [bF]
          refine iteT ?_
          rw [if_pos bF, nu, if_pos bF] at fin
          dsimp only at fin
          rw [nu, if_pos bF] at kv
          have ci : 0 ≤ startOf lens L.target + 0 ∧ startOf lens L.target + 0 < cs.length ∧ Kin (SpotD.cellAt ⟨lens, cs, i, []⟩ L.target 0) := by
            rcases hk with ⟨f, m, e⟩ | ⟨f, e⟩
            · exact FM.cell_in so eo.has (Int.le_refl 0) (hO.fo f m e).2
            · rw [e] at bF; cases bF
          have ce : SpotD.cellAt ⟨lens, cs, i, []⟩ L.target 0 = cs.getD (startOf lens L.target).toNat 0 := by
            show cs.getD (startOf lens L.target + 0).toNat 0 = _
            rw [Int.add_zero]
          rw [Int.add_zero] at ci fin
          rw [ce] at ci fin kv
          refine ⟨_, rfl, x, _, dxl, _, .str fo, rfl, h.sm _ _ hx, g1.cl, nf, ef, _, rfl, _, rfl, nw, _, _, _, rfl, rfl, h.lst 0 rfl, at_int (startOf lens L.target).toNat (by omega) (by omega), _, rfl, t3, _, 1, .int n, rfl, rfl, SqT.of e3, rfl, fo, _, _, rfl, hfo, ci.2.2, kn, fun J4 s4 => ?_⟩
          have h := h.same s4
          refine ⟨_, rfl, _, rfl, nw, _, _, (startOf lens L.target).toNat, rfl, rfl, h.get 0 rfl, ?_, ?_⟩
          · rw [List.length_map]; exact ixN_nat (by omega) (by omega)
          rw [set_ints]
          have h6 := h.put (o' := .lst ((cs.set (startOf lens L.target).toNat (joinR fo (cs.getD (startOf lens L.target).toNat 0) n)).map V.int)) 0 rfl
          exact ⟨some (joinR fo (cs.getD (startOf lens L.target).toNat 0) n), rvv, _, _, _, rfl, (fun z => by cases z), (fun _ => hv2 bF), (fun r e => by injection e with e; subst e; exact kv), h6, hC.set kv, by rw [hnn']; exact fin⟩
        · have bF' : isF L.kind = false := Bool.eq_false_iff.mpr bF
          rw [bF']
          refine iteF ?_
          rw [if_neg bF, nu, if_neg bF] at fin
          dsimp only at fin
          rw [nu, if_neg bF] at kv
          have hvv := hv1 bF'
          subst hvv
          have pl0 : ST.placeOf fs k ⟨lens, cs, i, []⟩ L = .ok (i : Int) := by
            rcases hk with ⟨f, m, e⟩ | ⟨f, e⟩
            · rw [e] at bF; exact absurd rfl bF
            · unfold ST.placeOf; rw [e]
          obtain ⟨i0, i1⟩ := lay_in so eo pl0
          cases rv with
          | none =>
            refine ⟨_, rfl, rfl, _, rfl, iteT ⟨_, rfl, t3, _, 1, .int n, rfl, rfl, SqT.of e3, rfl, ?_⟩⟩
            refine ⟨_, rfl, _, rfl, _, rfl, _, rfl, _, _, rfl, rfl, nw, _, _, (startOf lens L.target + i).toNat, rfl, rfl, h.get 0 rfl, ?_, ?_⟩
            · rw [List.length_map]; exact ixN_nat i0 i1
            rw [set_ints]
            have h6 := h.put (o' := .lst ((cs.set (startOf lens L.target + i).toNat n).map V.int)) 0 rfl
            exact ⟨some n, _, _, _, _, rfl, (fun _ => rfl), (fun z => by cases z), (fun r e => by injection e with e; subst e; exact kv), h6, hC.set kv, by rw [hnn']; exact fin⟩
          | some r =>
            refine ⟨_, rfl, rfl, _, rfl, iteF ⟨_, rfl, x, _, dxl, _, .str fo, rfl, h.sm _ _ hx, g1.cl, nf, ef, _, rfl, _, rfl, t3, _, 1, .int n, rfl, rfl, SqT.of e3, rfl, fo, _, _, rfl, hfo, hrv r rfl, kn, fun J4 s4 => ?_⟩⟩
            have h := h.same s4
            refine ⟨_, rfl, _, rfl, _, rfl, _, rfl, _, _, rfl, rfl, nw, _, _, (startOf lens L.target + i).toNat, rfl, rfl, h.get 0 rfl, ?_, ?_⟩
            · rw [List.length_map]; exact ixN_nat i0 i1
            rw [set_ints]
            have h6 := h.put (o' := .lst ((cs.set (startOf lens L.target + i).toNat (joinR fo r n)).map V.int)) 0 rfl
            exact ⟨some (joinR fo r n), _, _, _, _, rfl, (fun _ => rfl), (fun z => by cases z), (fun r e => by injection e with e; subst e; exact kv), h6, hC.set kv, by rw [hnn']; exact fin⟩
  · rintro σ J ⟨rv, rvv, u8, u9, cs, rfl, _, _, hrv, h, hC, fin⟩
    rw [Nat.sub_self] at fin
    exact ⟨_, rfl, (by show 2 ≤ sizeLine; decide), fun t nt => fin _ t nw (h.new nt)⟩
end
end K16

namespace L2
open PySem PySem.Spec PyProof.Rows
/-- any and max over a list of ints -/
theorem ints_at {ns : List Int} {us : List Value} (h : Vals (ns.map V.int) us) (i : Nat) (v : Value) (e : us[i]? = some v) : ∃ n t, ns[i]? = some n ∧ v = .int n t := by
  induction ns generalizing us i with
  | nil => cases h; cases e
  | cons n ns ih =>
    cases h with
    | cons r rr =>
      cases i with
      | zero => obtain ⟨t, rfl⟩ := r; cases (show some _ = some v from e); exact ⟨n, t, rfl, rfl⟩
      | succ i => exact ih rr i e
theorem vals_len {vs : List V} {us : List Value} (h : Vals vs us) : us.length = vs.length := by
  induction h with
  | nil => rfl
  | cons _ _ ih => rw [List.length_cons, List.length_cons, ih]
def rAnyI (K : PySem.W.Frag) : List V → Hp → VK → Prop := fun xs H Q => ∃ (p : Addr) (ns : List Int), xs = [.ref p] ∧ SqL K H p (ns.map V.int) ∧ Q (.bl (ns.any fun v => decide (v ≠ 0))) H
section
variable {X : Cx}
theorem call_maxL (hc : X.calm = true) : CallR X (.builtin "max") (fun xs H Q => ∃ (p : Addr) (ns : List Int), xs = [.ref p] ∧ SqL X.K H p (ns.map V.int) ∧ 0 < ns.length ∧ ∀ m, Q (.int m) H) := by
  intro pins s σ H xs us Q I r h
  obtain ⟨p, ns, rfl, hp, h0, q⟩ := h
  obtain ⟨u, rfl, ru⟩ := r.one
  cases (show u = Value.ref p from ru)
  obtain ⟨its, rv, pl, _⟩ := I.list hp
  obtain ⟨ys, hy⟩ := (ints_of rv).allInts.items
  have hl : s.heap.IsList p (intItems ys) := hy ▸ pl.isList
  have e1 := vals_len rv
  rw [List.length_map] at e1
  have hne : 0 < ys.size := by
    have z : its.toArray.size = (intItems ys).size := by rw [hy]
    simp [intItems] at z
    omega
  refine max_intList (I.ok.hd hc) hl hne fun v h' tk hv hk => ?_
  have z : its[argBest (fun i j => decide (numAt ys i > numAt ys j)) (ys.size - 1)]? = some v := by
    rw [← hy] at hv
    simpa using hv
  obtain ⟨n, t, _, rfl⟩ := ints_at rv _ v z
  exact ⟨.int n, H, I.kept hk, ⟨_, rfl⟩, q n⟩
end
end L2

namespace K16
open PySem L2 FM ST
section
variable {P : Program} {w : World} {K : PySem.W.Frag} {mg : Str → Option Value} {base : Heap}
def spLaw (K : PySem.W.Frag) : Sp := fun vs H Q _ => ∃ (a : Addr) (ns : List Int), vs = [.ref a] ∧ SqL K H a (ns.map V.int) ∧ ns.length ≤ 63 ∧ ∀ H', Q (.bl true) H'
theorem ok_law {c : F2.Cs} {CN OU PR f : Addr} {q : Scs} {M : Kd → Prop} {fd : FuncData} (F : Fun K "law" "law" s_law f fd) (hlen : mg "len" = none) (hlist : mg "list" = none) (hisi : mg "isinstance" = none) (hint : mg "int" = none) (hmax : mg "max" = none) (G : StepsK K mg q M) (hSt : mg "Step" = some (.ref q.step)) (hM0 : ∀ cc lens, M (kdBy cc lens)) (pc : ProgC K PR) (hCr : mg "Program" = some (.ref PR))
    (IPr : OkI P w K mg base (CXe P w base) 1 PR ["self", "lengths", "functions", "steps"] (spI_Prog K PR)) (MO : ManyK P w K mg base q M) (MX : Ok P w K mg base (CXe P w base) 1 "_law_mix" ["_law_cell", "_law_factor", "_law_prime"] spMix) (MB : Ok P w K mg base CX0 3 "_law_many_by" ["_law_cell", "_law_lengths"] (spManyBy K)) (FB : Ok P w K mg base CX0 2 "_law_fold_by" ["_law_cell"] spFoldBy) (TB : Ok P w K mg base CX0 2 "_law_target_by" ["_law_cell", "_law_lengths"] (spTgtBy K))
    (LN : Ok P w K mg base CX0 1 "_law_lengths_by" ["_law_script", "_law_wide"] (spLens K)) (FU : Ok P w K mg base (CXe P w base) 3 "_law_functions" [] (spFuns c K)) (CE : Ok P w K mg base CX0 2 "_law_cells_by" ["_law_script", "_law_lengths"] (spCells K)) (LB : Ok P w K mg base CX0 5 "_law_step_by" ["_law_cell", "_law_lengths"] (spStepBy P w K mg base c CN OU q))
    (DU : Ok P w K mg base CX0 10 "_law_due" ["_law_step", "_law_lengths", "_law_functions_here", "_law_cells", "_law_many"] (spDueR P w K mg base c CN OU q M 7)) (TO : Ok P w K mg base CX0 2 "_law_told" ["_law_found", "_law_due_here"] spTold) (PD : Ok P w K mg base CX0 13 "played" ["program", "cells"] (spPlayed P w K mg base c CN OU q M PR 7 0)) :
    FnOk P w K mg base CX0 14 f fd ["_law_script"] (spLaw K) := by
  refine F.ok sc_law (fun vs H Q E ⟨_, _, e, _⟩ => by rw [e]; rfl) fun cdv A outer s H vs Q E hr h => ?_
  obtain ⟨a, ns, rfl, hS, hn, k⟩ := h
  have nd := sc_law.nd
  have hr13 := hr
  have hr1 : Room 1 _ := hr.mono (by decide)
  have hr2 : Room 2 _ := hr.mono (by decide)
  have hr3 : Room 3 _ := hr.mono (by decide)
  have hr5 : Room 5 _ := hr.mono (by decide)
  have hr10 : Room 10 _ := hr.mono (by decide)
  have hu := hr.units
  refine ⟨_, (pss_cons (ps_set (i := 1) nd rfl (Or.inl rfl) (pe_ok LN hr1 (by rfl) pass0 (pa_cons (pv 0) (pa_cons pe_int pa_nil))))
      (pss_cons (ps_set (i := 2) nd rfl (Or.inl rfl) (pe_ok0 FU hr3 (by rfl) passF))
      (pss_cons (ps_set (i := 3) nd rfl (Or.inl rfl) (pe_ok CE hr2 (by rfl) pass0 (pa_cons (pe_op op_catQ (pv 0) (pe_lst (pa_cons pe_int pa_nil))) (pa_cons (pv 1) pa_nil))))
      (pss_cons (ps_for PassesOwn.never rfl (pi_list (pe_ix ix_list (pe_lst (pa_cons (pv 0) (pa_cons (pe_slice sl_list (pv 0) po_none (po_some pe_int)) pa_nil))) (pe_callTy call_int1 (by rfl) hint PyProof.Rows.boot_int (pa_cons (pe_cmpR op_gt (pe_callB (call_maxL rfl) (by rfl) hmax PyProof.Rows.boot_max (pa_cons (pv 1) pa_nil)) pe_int (nomark _)) pa_nil)) (fun _ _ => rfl))) (pg_name (i := 4) nd rfl (Or.inl rfl)) (pss_cons (ps_set (i := 5) nd rfl (Or.inl rfl) (pe_ok LB hr5 (by rfl) pass0 (pa_cons (pv 4) (pa_cons (pv 1) pa_nil))))
      (pss_cons (ps_set (i := 6) nd rfl (Or.inl rfl) (pe_ok MB hr3 (by rfl) pass0 (pa_cons (pv 4) (pa_cons (pv 1) pa_nil))))
      (pss_cons (ps_if (pw_or (pt_not (pt_val (pe_callB call_isinst (by rfl) hisi PyProof.Rows.boot_isinstance (pa_cons (pv 5) (pa_cons (pe_gref hSt) pa_nil))))) (pw_or (pt_cmpR op_ne (pe_fld (pv 5) rfl) (pe_ok FB hr2 (by rfl) pass0 (pa_cons (pv 4) pa_nil)) (nomark _)) (pw_or1 (pt_cmpR op_ne (pe_methX (CX := CXe P w base) hr1 passF (pv 5) (pa_cons (pe_callTy call_list_of (by rfl) hlist PyProof.Rows.boot_list (pa_cons (pv 1) pa_nil)) pa_nil)) (pv 6) (nomark _))))).pt (pss_one (ps_ret pe_bl)) pss_nil)
      (pss_cons (ps_if (pw_or (pt_cmpR op_ne (pe_fld (pv 5) rfl) (pe_ok TB hr2 (by rfl) pass0 (pa_cons (pv 4) (pa_cons (pv 1) pa_nil))) (nomark _)) (pw_or1 (pt_cmpR op_eq (pe_cmpR op_isN (pe_fld (pv 5) rfl) pe_non (nomark _)) (pe_cmpR op_eq (pe_op op_mod (pv 4) pe_int) pe_int (nomark _)) (nomark _)))).pt (pss_one (ps_ret pe_bl)) pss_nil)
      (pss_cons (ps_set (i := 7) nd rfl (Or.inl rfl) (pe_ok DU hr10 (by rfl) pass0 (pa_cons (pv 5) (pa_cons (pv 1) (pa_cons (pv 2) (pa_cons (pv 3) (pa_cons (pv 6) pa_nil)))))))
      (pss_cons (ps_set (i := 8) nd rfl (Or.inl rfl) (pe_callTy call_list_of (by rfl) hlist PyProof.Rows.boot_list (pa_cons (pv 3) pa_nil)))
      (pss_cons (ps_set (i := 9) nd rfl (Or.inl rfl) (pe_ok PD hr13 (by rfl) pass0 (pa_cons (pe_okI IPr hCr hr2 (by rfl) passF (pa_cons (pe_callTy call_list_of (by rfl) hlist PyProof.Rows.boot_list (pa_cons (pv 1) pa_nil)) (pa_cons (pe_callTy call_list_of (by rfl) hlist PyProof.Rows.boot_list (pa_cons (pv 2) pa_nil)) (pa_cons (pe_lst (pa_cons (pv 5) pa_nil)) pa_nil)))) (pa_cons (pv 8) pa_nil))))
      (pss_cons (ps_if (pw_or (pt_not (pt_val (pe_ok TO hr2 (by rfl) pass0 (pa_cons (pv 9) (pa_cons (pv 7) pa_nil))))) (pw_or1 (pt_cmpR (op_neD hu) (pv 8) (pv 3) (nomark _)))).pt (pss_one (ps_ret pe_bl)) pss_nil)
      (pss_one (ps_set (i := 3) nd rfl (Or.inl rfl) (pe_ix ix_tup (pv 7) pe_int (fun _ _ => rfl)))))))))))))
      (pss_one (ps_ret pe_bl)))))), ?_⟩
  refine ⟨_, rfl, a, ns, rfl, hS, hn, fun H1 l lens h1 ok => ?_⟩
  refine ⟨rfl, fun H2 f' s2 hf => ?_⟩
  have hl : SqL K H2 l (lens.map V.int) := sql_same (h1.lst 0 rfl) s2
  have s2 := h1.sm.trans s2
  refine ⟨_, rfl, (by show 1 ≤ sizeLine; decide), fun b nb => ?_⟩
  have s3 : Same H2 (upd H2 b (.lst [.int 0])) := same_upd (Same.refl _) nb
  have e3 : upd H2 b (.lst [.int 0]) b = some (.lst [.int 0]) := upd_same
  generalize upd H2 b (.lst [.int 0]) = H3 at s3 e3 ⊢
  have s23 := s2.trans s3
  have SL : (600 : Nat) < sizeLine := by decide
  refine ⟨a, b, ns.map V.int, [.int 0], rfl, rfl, sql_same hS s23, SqL.of e3, (by rw [List.length_map]; show ns.length + 1 ≤ sizeLine; omega), fun p np => ?_⟩
  have s4 : Same H3 (upd H3 p (.lst (ns.map V.int ++ [.int 0]))) := same_upd (Same.refl _) np
  have e4 : upd H3 p (.lst (ns.map V.int ++ [.int 0])) p = some (.lst ((ns ++ [0]).map V.int)) := by rw [upd_same, List.map_append]; rfl
  generalize upd H3 p (.lst (ns.map V.int ++ [.int 0])) = H4 at s4 e4 ⊢
  have s34 := s3.trans s4
  refine ⟨_, rfl, p, l, ns ++ [0], lens, rfl, SqL.of e4, (by rw [List.length_append]; show 0 < ns.length + 1; omega), sql_same hl s34, ok, fun H5 e cs h5 hC => ?_⟩
  have s25 := s34.trans h5.sm
  have hl := sql_same hl s25
  have hf := hf.same s25
  have he : SqL K H5 e (cs.map V.int) := h5.lst 0 rfl
  have sH := s2.trans s25
  clear s25 h5 s34 e4 s4 s23 e3 s3 s2 h1 np nb
  -- the cells walked: all, or the first nine
  have l1 := ok.l1
  refine ⟨_, rfl, _, rfl, 9, rfl, a, _, rfl, sql_same hS sH, fun a9 n9 => ?_⟩
  rw [cutV_take (by decide), show (9 : Int).toNat = 9 from rfl]
  have s6 : Same H5 (upd H5 a9 (.lst ((ns.take 9).map V.int))) := same_upd (Same.refl _) n9
  have e6 : upd H5 a9 (.lst ((ns.take 9).map V.int)) a9 = some (.lst ((ns.take 9).map V.int)) := upd_same
  generalize upd H5 a9 (.lst ((ns.take 9).map V.int)) = H6 at s6 e6 ⊢
  refine ⟨(by show 2 ≤ sizeLine; decide), fun two n2 => ?_⟩
  have s7 : Same H6 (upd H6 two (.lst [.ref a, .ref a9])) := same_upd (Same.refl _) n2
  have e7 : upd H6 two (.lst [.ref a, .ref a9]) two = some (.lst [.ref a, .ref a9]) := upd_same
  generalize upd H6 two (.lst [.ref a, .ref a9]) = H7 at s7 e7 ⊢
  have s57 := s6.trans s7
  refine ⟨_, rfl, l, lens, rfl, sql_same hl s57, (by omega), fun mx => ⟨_, _, rfl, rfl, .inr ⟨_, rfl, ?_⟩⟩⟩
  have pick : ∃ (j : Int) (w' : Addr) (ws : List Int), (if decide (mx > 60) = true then (1 : Int) else 0) = j ∧ atI [V.ref a, V.ref a9] j = some (.ref w') ∧ SqL K H7 w' (ws.map V.int) := by
    by_cases z : mx > 60
    · exact ⟨1, a9, ns.take 9, by rw [decide_eq_true z]; rfl, rfl, SqL.of (s7 _ _ e6)⟩
    · exact ⟨0, a, ns, by rw [decide_eq_false z]; rfl, rfl, sql_same hS (sH.trans s57)⟩
  obtain ⟨j, wa, ws, ej, eat, hws⟩ := pick
  rw [ej]
  refine ⟨two, _, _, _, rfl, rfl, SqL.of e7, eat, wa, rfl, ⟨_, hws⟩, ?_⟩
  have hl := sql_same hl s57
  have hf := hf.same s57
  have he := sql_same he s57
  clear ej eat e7 s7 n2 e6 s6 n9 sH s57
  refine for_list (K := K) (a := wa) (xs := ws.map V.int) (fun i σ J => ∃ (ca : Addr) (cs : List Int) (u4 u5 u6 u7 u8 u9 : Option V), σ = [some (.ref a), some (.ref l), some (.ref f'), some (.ref ca), u4, u5, u6, u7, u8, u9] ∧ Same H7 J ∧ SqL K J l (lens.map V.int) ∧ F2.FunsAt c K J f' FS ∧ SqL K J ca (cs.map V.int) ∧ CellsOk lens cs) ⟨e, cs, none, none, none, none, none, none, rfl, Same.refl _, hl, hf, he, hC⟩ (fun i σ J _ ⟨_, _, _, _, _, _, _, _, _, sJ, _⟩ => sql_same hws sJ) ?_ ?_
  · clear hC he hf hl
    rintro i y σ J hi ⟨ca, cs, u4, u5, u6, u7, u8, u9, rfl, sJ, hl, hf, hca, hC⟩
    obtain ⟨hlt, rfl⟩ := map_int_at hi
    generalize ws.getD i 0 = cc
    refine ⟨_, rfl, _, rfl, l, cc, lens, rfl, hl, ok, fun J1 x L s1 hL hk hT hN hW hO => ?_⟩
    have hM : M L.kind := by rw [hk]; exact hM0 _ _
    have g1 := G.c _ hM
    have hl := sql_same hl s1
    have hf := hf.same s1
    have hca := sql_same hca s1
    have sJ := sJ.trans s1
    have mo : manyOf lens L = manyBy cc lens := by
      unfold manyOf
      rw [hk, hT]
      unfold kdBy
      by_cases z : cc % 2 = 0
      · rw [if_pos z]
      · rw [if_neg z]
        show lens.getD (tgtBy cc lens).toNat 0 = _
        unfold manyBy
        rw [if_pos (by omega)]
    have hkk : (∃ f m, L.kind = .fold f m) ∨ ∃ f, L.kind = .run f := by
      rw [hk]
      unfold kdBy
      by_cases z : cc % 2 = 0
      · rw [if_pos z]; exact .inl ⟨_, _, rfl⟩
      · rw [if_neg z]; exact .inr ⟨_, rfl⟩
    refine ⟨_, rfl, _, rfl, l, cc, lens, rfl, hl, ok, fun Ja sa => ?_⟩
    have hl := sql_same hl sa
    have hf := hf.same sa
    have hca := sql_same hca sa
    have sJ := sJ.trans sa
    have hL := hL.same sa
    obtain ⟨dx, v, pl, t, hx, hv, ht, hp⟩ := hL.ex
    have ef : (ST.fieldsOf L v pl t).lookup ("fold" : Str) = some (.str (foldBy cc)) := by
      unfold ST.fieldsOf
      rw [hk]
      unfold kdBy
      by_cases z : cc % 2 = 0
      · rw [if_pos z]; rfl
      · rw [if_neg z]; rfl
    have nf : NoAttr K (q.of L.kind) "fold" := by
      rcases hkk with ⟨f, m, e⟩ | ⟨f, e⟩
      · have := g1.nF (by rw [e]; rfl); rw [e]; exact this
      · have := g1.nR (by rw [e]; rfl); rw [e]; exact this
    refine ⟨_, rfl, _, _, .ref q.step, _, true, rfl, rfl, (fun u r => r), step_ty g1 hx, g1.kS, true, rfl, iteF ?_⟩
    refine ⟨_, rfl, x, _, dx, _, .str (foldBy cc), rfl, hx, g1.cl, nf, ef, _, rfl, cc, rfl, fun Jb sb => ⟨rfl, _, rfl, iteNS rfl ?_⟩⟩
    have hl := sql_same hl sb
    have hf := hf.same sb
    have hca := sql_same hca sb
    have sJ := sJ.trans sb
    have hL := hL.same sb
    have hx := sb _ _ hx
    refine ⟨_, rfl, x, _, dx, _, _, rfl, hx, MO _ hM, fld_many_of, _, rfl, l, _, rfl, .inl hl, fun b nb => ?_⟩
    have s2 : Same Jb (upd Jb b (.lst (lens.map V.int))) := same_upd (Same.refl _) nb
    have e2 : upd Jb b (.lst (lens.map V.int)) b = some (.lst (lens.map V.int)) := upd_same
    generalize upd Jb b (.lst (lens.map V.int)) = J2 at s2 e2 ⊢
    have hx2 := s2 _ _ hx
    have hl := sql_same hl s2
    refine ⟨x, b, dx, v, pl, lens, L, t, rfl, rfl, hx2, SqL.of e2, hO.t0, hO.t1, _, rfl, rfl, _, rfl, iteNS (by rw [mo]) ?_⟩
    have hf := hf.same s2
    have hca := sql_same hca s2
    have hL := hL.same s2
    have sJ := sJ.trans s2
    clear e2 s2 nb
    refine ⟨_, rfl, x, _, dx, _, .int L.target, rfl, hx2, g1.cl, g1.n0, fld_target, _, rfl, _, rfl, l, cc, lens, rfl, hl, ok, fun Jc sc => ⟨rfl, _, rfl, iteNS (by rw [hT]) ?_⟩⟩
    have hl := sql_same hl sc
    have hf := hf.same sc
    have hca := sql_same hca sc
    have sJ := sJ.trans sc
    have hL := hL.same sc
    have hx2 := sc _ _ hx2
    have nq : decide (V.bl (decide (t = V.non)) = V.bl (decide (V.int (cc % 3) = V.int 0))) = false := by
      rw [intEq]
      apply decide_eq_false
      intro e
      injection e with e
      by_cases z : cc % 3 = 0
      · cases eT : L.test with
        | none => exact hN.mp eT z
        | some F =>
          rw [eT] at ht
          obtain ⟨u, rfl, _⟩ := ht
          rw [decide_eq_true z, decide_eq_false (fun q => nomatch q)] at e
          cases e
      · have eT := hN.mpr z
        rw [eT] at ht
        have ht : t = .non := ht
        subst ht
        rw [decide_eq_false z, decide_eq_true rfl] at e
        cases e
    refine ⟨_, rfl, x, _, dx, _, t, rfl, hx2, g1.cl, g1.n2, fld_test, rfl, _, rfl, _, _, rfl, rfl, (by show (0 : Int) < 3; decide), rfl, rfl, _, rfl, ?_⟩
    rw [nq]
    refine iteF ?_
    have hC2 : CellsOk lens (oneR FS 2 lens L 0 cs).1 := oneR_ok hO hC
    have hK2 : KindIn (oneR FS 2 lens L 0 cs).2 := kind_one _ _ _ _
    refine ⟨_, rfl, _, rfl, _, rfl, _, rfl, _, rfl, x, l, f', ca, FS, 2, lens, cs, L, (by rw [mo]; rfl), hM, hkk, hL, hl, hf, hca, hW, hO, hC, finp fun J3 td s3 atd => ?_⟩
    have hl := sql_same hl s3
    have hf := hf.same s3
    have hca := sql_same hca s3
    have hL := hL.same s3
    have sJ := sJ.trans s3
    refine ⟨_, rfl, ca, _, rfl, .inl hca, fun ha nha => ?_⟩
    have s4 : Same J3 (upd J3 ha (.lst (cs.map V.int))) := same_upd (Same.refl _) nha
    have eha : upd J3 ha (.lst (cs.map V.int)) ha = some (.lst (cs.map V.int)) := upd_same
    generalize upd J3 ha (.lst (cs.map V.int)) = J4 at s4 eha ⊢
    obtain ⟨ts, hts, tsl, tsi⟩ := (hf.same s4).ex
    refine ⟨_, rfl, l, _, rfl, .inl (sql_same hl s4), fun l1 nl1 => ?_⟩
    have s5 : Same J4 (upd J4 l1 (.lst (lens.map V.int))) := same_upd (Same.refl _) nl1
    have el1 : upd J4 l1 (.lst (lens.map V.int)) l1 = some (.lst (lens.map V.int)) := upd_same
    generalize upd J4 l1 (.lst (lens.map V.int)) = J5 at s5 el1 ⊢
    refine ⟨_, rfl, f', _, rfl, .inl (sql_same hts s5), fun f1 nf1 => ?_⟩
    have s6 : Same J5 (upd J5 f1 (.lst (ts.map V.ref))) := same_upd (Same.refl _) nf1
    have ef1 : upd J5 f1 (.lst (ts.map V.ref)) f1 = some (.lst (ts.map V.ref)) := upd_same
    generalize upd J5 f1 (.lst (ts.map V.ref)) = J6 at s6 ef1 ⊢
    refine ⟨_, rfl, (by show 1 ≤ sizeLine; decide), fun st nst => ?_⟩
    have s7 : Same J6 (upd J6 st (.lst [.ref x])) := same_upd (Same.refl _) nst
    have est : upd J6 st (.lst [.ref x]) st = some (.lst [.ref x]) := upd_same
    generalize upd J6 st (.lst [.ref x]) = J7 at s7 est ⊢
    refine fun xp dxp nxp ndxp _ => ?_
    have s8 : Same J7 (upd (upd J7 dxp (.own xp)) xp (.ins PR dxp [])) := same_upd (same_upd (Same.refl _) ndxp) nxp
    refine ⟨xp, dxp, l1, f1, st, _, _, _, rfl, upd_same, sql_same (SqL.of (s7 _ _ (s6 _ _ el1))) s8, sql_same (SqL.of (s7 _ _ ef1)) s8, sql_same (SqL.of est) s8, fun J8 la lb lc k8 ela elb elc exp => ⟨rfl, ?_⟩⟩
    have s8 := made_same nxp ndxp k8
    have s48 := (s5.trans (s6.trans s7)).trans s8
    have s38 := s4.trans s48
    have hF8 : F2.FunsAt c K J8 lb FS := ⟨ts, SqL.of elb, tsl, fun i hi => let ⟨b', p, q⟩ := tsi i hi; ⟨b', F2.sqt_same p s48, q.same s48⟩⟩
    have hL8 := hL.same s38
    have hha8 : SqL K J8 ha (cs.map V.int) := SqL.of (s48 _ _ eha)
    have atd8 := atd.same s38
    have sJ := sJ.trans s38
    have hl := sql_same hl s38
    have hf := hf.same s38
    have hca := sql_same hca s38
    clear s48 s38 s8 k8 nxp ndxp est s7 nst ef1 s6 nf1 el1 s5 nl1 eha s4 nha atd
    have hSt : StpsAt c q K J8 0 [.one L] lc := ⟨[x], SqL.of elc, rfl, fun i s y a b => by
      cases i with
      | succ i => cases a
      | zero =>
        cases (show some (Stp.one L) = some s from a)
        cases (show some x = some y from b)
        exact at_one hL8⟩
    have hP1 : playR FS 2 lens 0 [.one L] 0 cs = oneR FS 2 lens L 0 cs := by
      show listR _ _ [.one L] 0 cs = _
      unfold listR stepR
      dsimp only
      cases oneR FS 2 lens L 0 cs with
      | mk cs' r => cases r <;> rfl
    have nn : ∀ v ∈ lens, 0 ≤ v := hO.nn
    refine ⟨_, rfl, xp, dxp, la, lb, ha, lc, FS, 2, lens, cs, [.one L], rfl, hha8, hSt, exp, SqL.of ela, hF8, (fun s hs => by rw [List.mem_singleton.mp hs]; exact g_one ⟨hM, hW, hO⟩), hC, nn, finp fun J9 tp s9 atp => ?_⟩
    rw [hP1] at atp
    have atd9 := atd8.same s9
    refine ⟨_, rfl, _, rfl, tp, td, _, _, rfl, hK2, atp, atd9, true, rfl, iteF ?_⟩
    refine ⟨_, rfl, _, rfl, dI cs, dI cs, dv_ints (sql_same hha8 s9), dv_ints (sql_same hca s9), lay_ints, lay_ints, Nat.le_trans dep_ints (by decide), _, rfl, ?_⟩
    rw [SeqAt.eqv_refl _ lay_ints]
    refine iteF ?_
    generalize oneR FS 2 lens L 0 cs = rr at atd9 hC2
    obtain ⟨cd, ecd, x2, etd⟩ : ∃ cd, J9 cd = some (.lst (rr.1.map V.int)) ∧ ∃ x2, J9 td = some (.tup [.ref cd, x2]) := by
      obtain ⟨cd, ecd, r⟩ := atd9
      cases e : rr.2 with
      | none => rw [e] at r; exact ⟨cd, ecd, _, r⟩
      | some pe => rw [e] at r; obtain ⟨u, r1, _⟩ := r; exact ⟨cd, ecd, _, r1⟩
    exact ⟨_, rfl, td, _, 0, .ref cd, rfl, rfl, SqT.of etd, rfl, cd, rr.1, _, _, _, _, _, _, rfl, sJ.trans s9, sql_same hl s9, hf.same s9, SqL.of ecd, hC2⟩
  · rintro σ J ⟨_, _, _, _, _, _, _, _, rfl, _⟩
    exact k J
end
end K16

namespace K16
open PySem L2 FM ST
theorem own_in {K : PySem.W.Frag} {h₀ : Heap} {mg : Str → Option Value} {x : Str} {C : Addr} {bmB : List Value} {newId : String} (X : K.In h₀) (hm : mg x = some (.ref C)) (q : PySem.W.excIn K C bmB newId = true) : PyProof.Rows.OwnCls x C bmB newId mg h₀ := by
  refine ⟨hm, ?_⟩
  unfold PySem.W.excIn at q
  split at q
  · rename_i dd cd sl ho
    split at q
    · rename_i C' bm k0 k1 k2 k3 n k5 hm hs
      simp only [Bool.and_eq_true, beq_iff_eq, Bool.not_eq_true'] at q
      obtain ⟨⟨⟨⟨⟨rfl, rfl⟩, hdel⟩, ht⟩, hok⟩, hni⟩ := q
      obtain ⟨nm, bs, mro, ns, qn, hd, sn, sub, ab, col, del⟩ := cd
      dsimp only at hm hdel hok hni
      subst hm hdel
      obtain rfl : sl = #[k0, k1, k2, k3, some (.builtin n), k5] := by
        obtain ⟨l⟩ := sl
        simp only at hs; rw [hs]
      exact ⟨bm, ns, nm, qn, bs, hd, sn, sub, ab, col, dd, k0, k1, k2, k3, k5, _, X _ _ ho, .of_isNs (PySem.W.isNs_of_in X hok), PySem.W.nsMap_none_of_in X hok hni, PySem.W.tail_of_in X ht⟩
    · cases q
  · cases q

theorem fs_hands (a : Int) : F2.handsOf FS a ≤ 600 := by
  unfold F2.handsOf FS
  generalize a.toNat = n
  match n with
  | 0 => show 1 ≤ 600; decide
  | 1 => show 2 ≤ 600; decide
  | n + 2 => show 0 ≤ 600; decide

theorem all_mk {l : PySem.W.OpenLaw} {w : World} {K : PySem.W.Frag} {h : Heap} {mg : Str → Option Value} {fa f_kept f_plus f_minus f_times f_refuse_nought f_quotient f_remainder f_lesser f_greater f_is_less f_is_equal f_bits_of_both f_bits_of_either f_bits_of_one f_chained f_capped f_done f_free f_joined f_start_of f_lies_in f_cell_at f_count_of f_is_passed_over f_number_to_lay f_place_put f_place_to_lay f_element_played f_elements_played f_till_played f_steps_played f_played f_l_whole f_l_kept_by f_l_mix f_l_asked f_l_functions f_l_leaf_by f_l_value_by f_l_lengths_by f_l_cells_by f_l_element f_l_told f_l_joined f_l_fold_by f_l_target_by f_l_many_by f_l_step_by f_l_due f_law f_Spot_init f_Number_init f_Number_worth f_Here_worth f_Cell_init f_Cell_worth f_Shifted_init f_Shifted_worth f_Local_init f_Local_worth f_At_init f_At_worth f_Pair_init f_Pair_worth f_Choice_init f_Choice_worth f_Call_init f_Call_worth f_Fold_init f_Fold_many_of f_Running_init f_Running_many_of f_Program_init C_Spot C_Number C_Here C_Cell C_Shifted C_Local C_At C_Pair C_Choice C_Call C_Fold C_Running C_Program : Addr} {CN OU PU TI SX S SF SO : Addr} {tH tC : Tok} {es esF esO : Array DictEntry} {nS nF nO : Nat} {od_kept an_kept od_plus an_plus od_minus an_minus od_times an_times od_refuse_nought an_refuse_nought od_quotient an_quotient od_remainder an_remainder od_lesser an_lesser od_greater an_greater od_is_less an_is_less od_is_equal an_is_equal od_bits_of_both an_bits_of_both od_bits_of_either an_bits_of_either od_bits_of_one an_bits_of_one od_chained an_chained od_capped an_capped od_done an_done od_free an_free od_joined an_joined od_start_of an_start_of od_lies_in an_lies_in od_cell_at an_cell_at od_count_of an_count_of od_is_passed_over an_is_passed_over od_number_to_lay an_number_to_lay od_place_put an_place_put od_place_to_lay an_place_to_lay od_element_played an_element_played od_elements_played an_elements_played od_till_played an_till_played od_steps_played an_steps_played od_played an_played od_l_whole an_l_whole od_l_kept_by an_l_kept_by od_l_mix an_l_mix od_l_asked an_l_asked od_l_functions an_l_functions od_l_leaf_by an_l_leaf_by od_l_value_by an_l_value_by od_l_lengths_by an_l_lengths_by od_l_cells_by an_l_cells_by od_l_element an_l_element od_l_told an_l_told od_l_joined an_l_joined od_l_fold_by an_l_fold_by od_l_target_by an_l_target_by od_l_many_by an_l_many_by od_l_step_by an_l_step_by od_l_due an_l_due od_law an_law od_Spot_init an_Spot_init od_Number_init an_Number_init od_Number_worth an_Number_worth od_Here_worth an_Here_worth od_Cell_init an_Cell_init od_Cell_worth an_Cell_worth od_Shifted_init an_Shifted_init od_Shifted_worth an_Shifted_worth od_Local_init an_Local_init od_Local_worth an_Local_worth od_At_init an_At_init od_At_worth an_At_worth od_Pair_init an_Pair_init od_Pair_worth an_Pair_worth od_Choice_init an_Choice_init od_Choice_worth an_Choice_worth od_Call_init an_Call_init od_Call_worth an_Call_worth od_Fold_init an_Fold_init od_Fold_many_of an_Fold_many_of od_Running_init an_Running_init od_Running_many_of an_Running_many_of od_Program_init an_Program_init : Option Addr} {sl_kept sl_plus sl_minus sl_times sl_refuse_nought sl_quotient sl_remainder sl_lesser sl_greater sl_is_less sl_is_equal sl_bits_of_both sl_bits_of_either sl_bits_of_one sl_chained sl_capped sl_done sl_free sl_joined sl_start_of sl_lies_in sl_cell_at sl_count_of sl_is_passed_over sl_number_to_lay sl_place_put sl_place_to_lay sl_element_played sl_elements_played sl_till_played sl_steps_played sl_played sl_l_whole sl_l_kept_by sl_l_mix sl_l_asked sl_l_functions sl_l_leaf_by sl_l_value_by sl_l_lengths_by sl_l_cells_by sl_l_element sl_l_told sl_l_joined sl_l_fold_by sl_l_target_by sl_l_many_by sl_l_step_by sl_l_due sl_law sl_Spot_init sl_Number_init sl_Number_worth sl_Here_worth sl_Cell_init sl_Cell_worth sl_Shifted_init sl_Shifted_worth sl_Local_init sl_Local_worth sl_At_init sl_At_worth sl_Pair_init sl_Pair_worth sl_Choice_init sl_Choice_worth sl_Call_init sl_Call_worth sl_Fold_init sl_Fold_many_of sl_Running_init sl_Running_many_of sl_Program_init : Array (Option Value)} {oc_kept kV_kept dc_kept pm_kept cd_kept ct_kept oc_plus kV_plus dc_plus pm_plus cd_plus ct_plus oc_minus kV_minus dc_minus pm_minus cd_minus ct_minus oc_times kV_times dc_times pm_times cd_times ct_times oc_refuse_nought kV_refuse_nought dc_refuse_nought pm_refuse_nought cd_refuse_nought ct_refuse_nought oc_quotient kV_quotient dc_quotient pm_quotient cd_quotient ct_quotient oc_remainder kV_remainder dc_remainder pm_remainder cd_remainder ct_remainder oc_lesser kV_lesser dc_lesser pm_lesser cd_lesser ct_lesser oc_greater kV_greater dc_greater pm_greater cd_greater ct_greater oc_is_less kV_is_less dc_is_less pm_is_less cd_is_less ct_is_less oc_is_equal kV_is_equal dc_is_equal pm_is_equal cd_is_equal ct_is_equal oc_bits_of_both kV_bits_of_both dc_bits_of_both pm_bits_of_both cd_bits_of_both ct_bits_of_both oc_bits_of_either kV_bits_of_either dc_bits_of_either pm_bits_of_either cd_bits_of_either ct_bits_of_either oc_bits_of_one kV_bits_of_one dc_bits_of_one pm_bits_of_one cd_bits_of_one ct_bits_of_one oc_chained kV_chained dc_chained pm_chained cd_chained ct_chained oc_capped kV_capped dc_capped pm_capped cd_capped ct_capped oc_done kV_done dc_done pm_done cd_done ct_done oc_free kV_free dc_free pm_free cd_free ct_free oc_joined kV_joined dc_joined pm_joined cd_joined ct_joined oc_start_of kV_start_of dc_start_of pm_start_of cd_start_of ct_start_of oc_lies_in kV_lies_in dc_lies_in pm_lies_in cd_lies_in ct_lies_in oc_cell_at kV_cell_at dc_cell_at pm_cell_at cd_cell_at ct_cell_at oc_count_of kV_count_of dc_count_of pm_count_of cd_count_of ct_count_of oc_is_passed_over kV_is_passed_over dc_is_passed_over pm_is_passed_over cd_is_passed_over ct_is_passed_over oc_number_to_lay kV_number_to_lay dc_number_to_lay pm_number_to_lay cd_number_to_lay ct_number_to_lay oc_place_put kV_place_put dc_place_put pm_place_put cd_place_put ct_place_put oc_place_to_lay kV_place_to_lay dc_place_to_lay pm_place_to_lay cd_place_to_lay ct_place_to_lay oc_element_played kV_element_played dc_element_played pm_element_played cd_element_played ct_element_played oc_elements_played kV_elements_played dc_elements_played pm_elements_played cd_elements_played ct_elements_played oc_till_played kV_till_played dc_till_played pm_till_played cd_till_played ct_till_played oc_steps_played kV_steps_played dc_steps_played pm_steps_played cd_steps_played ct_steps_played oc_played kV_played dc_played pm_played cd_played ct_played oc_l_whole kV_l_whole dc_l_whole pm_l_whole cd_l_whole ct_l_whole oc_l_kept_by kV_l_kept_by dc_l_kept_by pm_l_kept_by cd_l_kept_by ct_l_kept_by oc_l_mix kV_l_mix dc_l_mix pm_l_mix cd_l_mix ct_l_mix oc_l_asked kV_l_asked dc_l_asked pm_l_asked cd_l_asked ct_l_asked oc_l_functions kV_l_functions dc_l_functions pm_l_functions cd_l_functions ct_l_functions oc_l_leaf_by kV_l_leaf_by dc_l_leaf_by pm_l_leaf_by cd_l_leaf_by ct_l_leaf_by oc_l_value_by kV_l_value_by dc_l_value_by pm_l_value_by cd_l_value_by ct_l_value_by oc_l_lengths_by kV_l_lengths_by dc_l_lengths_by pm_l_lengths_by cd_l_lengths_by ct_l_lengths_by oc_l_cells_by kV_l_cells_by dc_l_cells_by pm_l_cells_by cd_l_cells_by ct_l_cells_by oc_l_element kV_l_element dc_l_element pm_l_element cd_l_element ct_l_element oc_l_told kV_l_told dc_l_told pm_l_told cd_l_told ct_l_told oc_l_joined kV_l_joined dc_l_joined pm_l_joined cd_l_joined ct_l_joined oc_l_fold_by kV_l_fold_by dc_l_fold_by pm_l_fold_by cd_l_fold_by ct_l_fold_by oc_l_target_by kV_l_target_by dc_l_target_by pm_l_target_by cd_l_target_by ct_l_target_by oc_l_many_by kV_l_many_by dc_l_many_by pm_l_many_by cd_l_many_by ct_l_many_by oc_l_step_by kV_l_step_by dc_l_step_by pm_l_step_by cd_l_step_by ct_l_step_by oc_l_due kV_l_due dc_l_due pm_l_due cd_l_due ct_l_due oc_law kV_law dc_law pm_law cd_law ct_law oc_Spot_init kV_Spot_init dc_Spot_init pm_Spot_init cd_Spot_init ct_Spot_init oc_Number_init kV_Number_init dc_Number_init pm_Number_init cd_Number_init ct_Number_init oc_Number_worth kV_Number_worth dc_Number_worth pm_Number_worth cd_Number_worth ct_Number_worth oc_Here_worth kV_Here_worth dc_Here_worth pm_Here_worth cd_Here_worth ct_Here_worth oc_Cell_init kV_Cell_init dc_Cell_init pm_Cell_init cd_Cell_init ct_Cell_init oc_Cell_worth kV_Cell_worth dc_Cell_worth pm_Cell_worth cd_Cell_worth ct_Cell_worth oc_Shifted_init kV_Shifted_init dc_Shifted_init pm_Shifted_init cd_Shifted_init ct_Shifted_init oc_Shifted_worth kV_Shifted_worth dc_Shifted_worth pm_Shifted_worth cd_Shifted_worth ct_Shifted_worth oc_Local_init kV_Local_init dc_Local_init pm_Local_init cd_Local_init ct_Local_init oc_Local_worth kV_Local_worth dc_Local_worth pm_Local_worth cd_Local_worth ct_Local_worth oc_At_init kV_At_init dc_At_init pm_At_init cd_At_init ct_At_init oc_At_worth kV_At_worth dc_At_worth pm_At_worth cd_At_worth ct_At_worth oc_Pair_init kV_Pair_init dc_Pair_init pm_Pair_init cd_Pair_init ct_Pair_init oc_Pair_worth kV_Pair_worth dc_Pair_worth pm_Pair_worth cd_Pair_worth ct_Pair_worth oc_Choice_init kV_Choice_init dc_Choice_init pm_Choice_init cd_Choice_init ct_Choice_init oc_Choice_worth kV_Choice_worth dc_Choice_worth pm_Choice_worth cd_Choice_worth ct_Choice_worth oc_Call_init kV_Call_init dc_Call_init pm_Call_init cd_Call_init ct_Call_init oc_Call_worth kV_Call_worth dc_Call_worth pm_Call_worth cd_Call_worth ct_Call_worth oc_Fold_init kV_Fold_init dc_Fold_init pm_Fold_init cd_Fold_init ct_Fold_init oc_Fold_many_of kV_Fold_many_of dc_Fold_many_of pm_Fold_many_of cd_Fold_many_of ct_Fold_many_of oc_Running_init kV_Running_init dc_Running_init pm_Running_init cd_Running_init ct_Running_init oc_Running_many_of kV_Running_many_of dc_Running_many_of pm_Running_many_of cd_Running_many_of ct_Running_many_of oc_Program_init kV_Program_init dc_Program_init pm_Program_init cd_Program_init ct_Program_init : Value} {T_Fold_init : Addr} {ocT_Fold_init : Value} {odT_Fold_init : Option Addr} {slT_Fold_init : Array (Option Value)} {nT_Fold_init : Nat} {T_Running_init : Addr} {ocT_Running_init : Value} {odT_Running_init : Option Addr} {slT_Running_init : Array (Option Value)} {nT_Running_init : Nat} (X : K.In h) (G : h.Ns mainGlobals mg) (hfa : mg "law" = some (.ref fa))
    (a_kept : PySem.W.nsIn K mainGlobals "kept" = some (some (.ref f_kept))) (l_kept : K.lookup f_kept = some ⟨oc_kept, od_kept, .func (PySem.W.fnOf "kept" "kept" (defArgs s_kept) (defBody s_kept) (defScope s_kept) .none kV_kept dc_kept pm_kept an_kept cd_kept ct_kept), sl_kept⟩) (c_kept : PySem.W.codeIn K cd_kept "kept" = true) (k_kept : PySem.W.keepIn K (.ref f_kept) = true)
    (a_plus : PySem.W.nsIn K mainGlobals "plus" = some (some (.ref f_plus))) (l_plus : K.lookup f_plus = some ⟨oc_plus, od_plus, .func (PySem.W.fnOf "plus" "plus" (defArgs s_plus) (defBody s_plus) (defScope s_plus) .none kV_plus dc_plus pm_plus an_plus cd_plus ct_plus), sl_plus⟩) (c_plus : PySem.W.codeIn K cd_plus "plus" = true) (k_plus : PySem.W.keepIn K (.ref f_plus) = true)
    (a_minus : PySem.W.nsIn K mainGlobals "minus" = some (some (.ref f_minus))) (l_minus : K.lookup f_minus = some ⟨oc_minus, od_minus, .func (PySem.W.fnOf "minus" "minus" (defArgs s_minus) (defBody s_minus) (defScope s_minus) .none kV_minus dc_minus pm_minus an_minus cd_minus ct_minus), sl_minus⟩) (c_minus : PySem.W.codeIn K cd_minus "minus" = true) (k_minus : PySem.W.keepIn K (.ref f_minus) = true)
    (a_times : PySem.W.nsIn K mainGlobals "times" = some (some (.ref f_times))) (l_times : K.lookup f_times = some ⟨oc_times, od_times, .func (PySem.W.fnOf "times" "times" (defArgs s_times) (defBody s_times) (defScope s_times) .none kV_times dc_times pm_times an_times cd_times ct_times), sl_times⟩) (c_times : PySem.W.codeIn K cd_times "times" = true) (k_times : PySem.W.keepIn K (.ref f_times) = true)
    (a_refuse_nought : PySem.W.nsIn K mainGlobals "refuse_nought" = some (some (.ref f_refuse_nought))) (l_refuse_nought : K.lookup f_refuse_nought = some ⟨oc_refuse_nought, od_refuse_nought, .func (PySem.W.fnOf "refuse_nought" "refuse_nought" (defArgs s_refuse_nought) (defBody s_refuse_nought) (defScope s_refuse_nought) .none kV_refuse_nought dc_refuse_nought pm_refuse_nought an_refuse_nought cd_refuse_nought ct_refuse_nought), sl_refuse_nought⟩) (c_refuse_nought : PySem.W.codeIn K cd_refuse_nought "refuse_nought" = true) (k_refuse_nought : PySem.W.keepIn K (.ref f_refuse_nought) = true)
    (a_quotient : PySem.W.nsIn K mainGlobals "quotient" = some (some (.ref f_quotient))) (l_quotient : K.lookup f_quotient = some ⟨oc_quotient, od_quotient, .func (PySem.W.fnOf "quotient" "quotient" (defArgs s_quotient) (defBody s_quotient) (defScope s_quotient) .none kV_quotient dc_quotient pm_quotient an_quotient cd_quotient ct_quotient), sl_quotient⟩) (c_quotient : PySem.W.codeIn K cd_quotient "quotient" = true) (k_quotient : PySem.W.keepIn K (.ref f_quotient) = true)
    (a_remainder : PySem.W.nsIn K mainGlobals "remainder" = some (some (.ref f_remainder))) (l_remainder : K.lookup f_remainder = some ⟨oc_remainder, od_remainder, .func (PySem.W.fnOf "remainder" "remainder" (defArgs s_remainder) (defBody s_remainder) (defScope s_remainder) .none kV_remainder dc_remainder pm_remainder an_remainder cd_remainder ct_remainder), sl_remainder⟩) (c_remainder : PySem.W.codeIn K cd_remainder "remainder" = true) (k_remainder : PySem.W.keepIn K (.ref f_remainder) = true)
    (a_lesser : PySem.W.nsIn K mainGlobals "lesser" = some (some (.ref f_lesser))) (l_lesser : K.lookup f_lesser = some ⟨oc_lesser, od_lesser, .func (PySem.W.fnOf "lesser" "lesser" (defArgs s_lesser) (defBody s_lesser) (defScope s_lesser) .none kV_lesser dc_lesser pm_lesser an_lesser cd_lesser ct_lesser), sl_lesser⟩) (c_lesser : PySem.W.codeIn K cd_lesser "lesser" = true) (k_lesser : PySem.W.keepIn K (.ref f_lesser) = true)
    (a_greater : PySem.W.nsIn K mainGlobals "greater" = some (some (.ref f_greater))) (l_greater : K.lookup f_greater = some ⟨oc_greater, od_greater, .func (PySem.W.fnOf "greater" "greater" (defArgs s_greater) (defBody s_greater) (defScope s_greater) .none kV_greater dc_greater pm_greater an_greater cd_greater ct_greater), sl_greater⟩) (c_greater : PySem.W.codeIn K cd_greater "greater" = true) (k_greater : PySem.W.keepIn K (.ref f_greater) = true)
    (a_is_less : PySem.W.nsIn K mainGlobals "is_less" = some (some (.ref f_is_less))) (l_is_less : K.lookup f_is_less = some ⟨oc_is_less, od_is_less, .func (PySem.W.fnOf "is_less" "is_less" (defArgs s_is_less) (defBody s_is_less) (defScope s_is_less) .none kV_is_less dc_is_less pm_is_less an_is_less cd_is_less ct_is_less), sl_is_less⟩) (c_is_less : PySem.W.codeIn K cd_is_less "is_less" = true) (k_is_less : PySem.W.keepIn K (.ref f_is_less) = true)
    (a_is_equal : PySem.W.nsIn K mainGlobals "is_equal" = some (some (.ref f_is_equal))) (l_is_equal : K.lookup f_is_equal = some ⟨oc_is_equal, od_is_equal, .func (PySem.W.fnOf "is_equal" "is_equal" (defArgs s_is_equal) (defBody s_is_equal) (defScope s_is_equal) .none kV_is_equal dc_is_equal pm_is_equal an_is_equal cd_is_equal ct_is_equal), sl_is_equal⟩) (c_is_equal : PySem.W.codeIn K cd_is_equal "is_equal" = true) (k_is_equal : PySem.W.keepIn K (.ref f_is_equal) = true)
    (a_bits_of_both : PySem.W.nsIn K mainGlobals "bits_of_both" = some (some (.ref f_bits_of_both))) (l_bits_of_both : K.lookup f_bits_of_both = some ⟨oc_bits_of_both, od_bits_of_both, .func (PySem.W.fnOf "bits_of_both" "bits_of_both" (defArgs s_bits_of_both) (defBody s_bits_of_both) (defScope s_bits_of_both) .none kV_bits_of_both dc_bits_of_both pm_bits_of_both an_bits_of_both cd_bits_of_both ct_bits_of_both), sl_bits_of_both⟩) (c_bits_of_both : PySem.W.codeIn K cd_bits_of_both "bits_of_both" = true) (k_bits_of_both : PySem.W.keepIn K (.ref f_bits_of_both) = true)
    (a_bits_of_either : PySem.W.nsIn K mainGlobals "bits_of_either" = some (some (.ref f_bits_of_either))) (l_bits_of_either : K.lookup f_bits_of_either = some ⟨oc_bits_of_either, od_bits_of_either, .func (PySem.W.fnOf "bits_of_either" "bits_of_either" (defArgs s_bits_of_either) (defBody s_bits_of_either) (defScope s_bits_of_either) .none kV_bits_of_either dc_bits_of_either pm_bits_of_either an_bits_of_either cd_bits_of_either ct_bits_of_either), sl_bits_of_either⟩) (c_bits_of_either : PySem.W.codeIn K cd_bits_of_either "bits_of_either" = true) (k_bits_of_either : PySem.W.keepIn K (.ref f_bits_of_either) = true)
    (a_bits_of_one : PySem.W.nsIn K mainGlobals "bits_of_one" = some (some (.ref f_bits_of_one))) (l_bits_of_one : K.lookup f_bits_of_one = some ⟨oc_bits_of_one, od_bits_of_one, .func (PySem.W.fnOf "bits_of_one" "bits_of_one" (defArgs s_bits_of_one) (defBody s_bits_of_one) (defScope s_bits_of_one) .none kV_bits_of_one dc_bits_of_one pm_bits_of_one an_bits_of_one cd_bits_of_one ct_bits_of_one), sl_bits_of_one⟩) (c_bits_of_one : PySem.W.codeIn K cd_bits_of_one "bits_of_one" = true) (k_bits_of_one : PySem.W.keepIn K (.ref f_bits_of_one) = true)
    (a_chained : PySem.W.nsIn K mainGlobals "chained" = some (some (.ref f_chained))) (l_chained : K.lookup f_chained = some ⟨oc_chained, od_chained, .func (PySem.W.fnOf "chained" "chained" (defArgs s_chained) (defBody s_chained) (defScope s_chained) .none kV_chained dc_chained pm_chained an_chained cd_chained ct_chained), sl_chained⟩) (c_chained : PySem.W.codeIn K cd_chained "chained" = true) (k_chained : PySem.W.keepIn K (.ref f_chained) = true)
    (a_capped : PySem.W.nsIn K mainGlobals "capped" = some (some (.ref f_capped))) (l_capped : K.lookup f_capped = some ⟨oc_capped, od_capped, .func (PySem.W.fnOf "capped" "capped" (defArgs s_capped) (defBody s_capped) (defScope s_capped) .none kV_capped dc_capped pm_capped an_capped cd_capped ct_capped), sl_capped⟩) (c_capped : PySem.W.codeIn K cd_capped "capped" = true) (k_capped : PySem.W.keepIn K (.ref f_capped) = true)
    (a_done : PySem.W.nsIn K mainGlobals "done" = some (some (.ref f_done))) (l_done : K.lookup f_done = some ⟨oc_done, od_done, .func (PySem.W.fnOf "done" "done" (defArgs s_done) (defBody s_done) (defScope s_done) .none kV_done dc_done pm_done an_done cd_done ct_done), sl_done⟩) (c_done : PySem.W.codeIn K cd_done "done" = true) (k_done : PySem.W.keepIn K (.ref f_done) = true)
    (a_free : PySem.W.nsIn K mainGlobals "free" = some (some (.ref f_free))) (l_free : K.lookup f_free = some ⟨oc_free, od_free, .func (PySem.W.fnOf "free" "free" (defArgs s_free) (defBody s_free) (defScope s_free) .none kV_free dc_free pm_free an_free cd_free ct_free), sl_free⟩) (c_free : PySem.W.codeIn K cd_free "free" = true) (k_free : PySem.W.keepIn K (.ref f_free) = true)
    (a_joined : PySem.W.nsIn K mainGlobals "joined" = some (some (.ref f_joined))) (l_joined : K.lookup f_joined = some ⟨oc_joined, od_joined, .func (PySem.W.fnOf "joined" "joined" (defArgs s_joined) (defBody s_joined) (defScope s_joined) .none kV_joined dc_joined pm_joined an_joined cd_joined ct_joined), sl_joined⟩) (c_joined : PySem.W.codeIn K cd_joined "joined" = true) (k_joined : PySem.W.keepIn K (.ref f_joined) = true)
    (a_start_of : PySem.W.nsIn K mainGlobals "start_of" = some (some (.ref f_start_of))) (l_start_of : K.lookup f_start_of = some ⟨oc_start_of, od_start_of, .func (PySem.W.fnOf "start_of" "start_of" (defArgs s_start_of) (defBody s_start_of) (defScope s_start_of) .none kV_start_of dc_start_of pm_start_of an_start_of cd_start_of ct_start_of), sl_start_of⟩) (c_start_of : PySem.W.codeIn K cd_start_of "start_of" = true) (k_start_of : PySem.W.keepIn K (.ref f_start_of) = true)
    (a_lies_in : PySem.W.nsIn K mainGlobals "lies_in" = some (some (.ref f_lies_in))) (l_lies_in : K.lookup f_lies_in = some ⟨oc_lies_in, od_lies_in, .func (PySem.W.fnOf "lies_in" "lies_in" (defArgs s_lies_in) (defBody s_lies_in) (defScope s_lies_in) .none kV_lies_in dc_lies_in pm_lies_in an_lies_in cd_lies_in ct_lies_in), sl_lies_in⟩) (c_lies_in : PySem.W.codeIn K cd_lies_in "lies_in" = true) (k_lies_in : PySem.W.keepIn K (.ref f_lies_in) = true)
    (a_cell_at : PySem.W.nsIn K mainGlobals "cell_at" = some (some (.ref f_cell_at))) (l_cell_at : K.lookup f_cell_at = some ⟨oc_cell_at, od_cell_at, .func (PySem.W.fnOf "cell_at" "cell_at" (defArgs s_cell_at) (defBody s_cell_at) (defScope s_cell_at) .none kV_cell_at dc_cell_at pm_cell_at an_cell_at cd_cell_at ct_cell_at), sl_cell_at⟩) (c_cell_at : PySem.W.codeIn K cd_cell_at "cell_at" = true) (k_cell_at : PySem.W.keepIn K (.ref f_cell_at) = true)
    (a_count_of : PySem.W.nsIn K mainGlobals "count_of" = some (some (.ref f_count_of))) (l_count_of : K.lookup f_count_of = some ⟨oc_count_of, od_count_of, .func (PySem.W.fnOf "count_of" "count_of" (defArgs s_count_of) (defBody s_count_of) (defScope s_count_of) .none kV_count_of dc_count_of pm_count_of an_count_of cd_count_of ct_count_of), sl_count_of⟩) (c_count_of : PySem.W.codeIn K cd_count_of "count_of" = true) (k_count_of : PySem.W.keepIn K (.ref f_count_of) = true)
    (a_is_passed_over : PySem.W.nsIn K mainGlobals "is_passed_over" = some (some (.ref f_is_passed_over))) (l_is_passed_over : K.lookup f_is_passed_over = some ⟨oc_is_passed_over, od_is_passed_over, .func (PySem.W.fnOf "is_passed_over" "is_passed_over" (defArgs s_is_passed_over) (defBody s_is_passed_over) (defScope s_is_passed_over) .none kV_is_passed_over dc_is_passed_over pm_is_passed_over an_is_passed_over cd_is_passed_over ct_is_passed_over), sl_is_passed_over⟩) (c_is_passed_over : PySem.W.codeIn K cd_is_passed_over "is_passed_over" = true) (k_is_passed_over : PySem.W.keepIn K (.ref f_is_passed_over) = true)
    (a_number_to_lay : PySem.W.nsIn K mainGlobals "number_to_lay" = some (some (.ref f_number_to_lay))) (l_number_to_lay : K.lookup f_number_to_lay = some ⟨oc_number_to_lay, od_number_to_lay, .func (PySem.W.fnOf "number_to_lay" "number_to_lay" (defArgs s_number_to_lay) (defBody s_number_to_lay) (defScope s_number_to_lay) .none kV_number_to_lay dc_number_to_lay pm_number_to_lay an_number_to_lay cd_number_to_lay ct_number_to_lay), sl_number_to_lay⟩) (c_number_to_lay : PySem.W.codeIn K cd_number_to_lay "number_to_lay" = true) (k_number_to_lay : PySem.W.keepIn K (.ref f_number_to_lay) = true)
    (a_place_put : PySem.W.nsIn K mainGlobals "place_put" = some (some (.ref f_place_put))) (l_place_put : K.lookup f_place_put = some ⟨oc_place_put, od_place_put, .func (PySem.W.fnOf "place_put" "place_put" (defArgs s_place_put) (defBody s_place_put) (defScope s_place_put) .none kV_place_put dc_place_put pm_place_put an_place_put cd_place_put ct_place_put), sl_place_put⟩) (c_place_put : PySem.W.codeIn K cd_place_put "place_put" = true) (k_place_put : PySem.W.keepIn K (.ref f_place_put) = true)
    (a_place_to_lay : PySem.W.nsIn K mainGlobals "place_to_lay" = some (some (.ref f_place_to_lay))) (l_place_to_lay : K.lookup f_place_to_lay = some ⟨oc_place_to_lay, od_place_to_lay, .func (PySem.W.fnOf "place_to_lay" "place_to_lay" (defArgs s_place_to_lay) (defBody s_place_to_lay) (defScope s_place_to_lay) .none kV_place_to_lay dc_place_to_lay pm_place_to_lay an_place_to_lay cd_place_to_lay ct_place_to_lay), sl_place_to_lay⟩) (c_place_to_lay : PySem.W.codeIn K cd_place_to_lay "place_to_lay" = true) (k_place_to_lay : PySem.W.keepIn K (.ref f_place_to_lay) = true)
    (a_element_played : PySem.W.nsIn K mainGlobals "element_played" = some (some (.ref f_element_played))) (l_element_played : K.lookup f_element_played = some ⟨oc_element_played, od_element_played, .func (PySem.W.fnOf "element_played" "element_played" (defArgs s_element_played) (defBody s_element_played) (defScope s_element_played) .none kV_element_played dc_element_played pm_element_played an_element_played cd_element_played ct_element_played), sl_element_played⟩) (c_element_played : PySem.W.codeIn K cd_element_played "element_played" = true) (k_element_played : PySem.W.keepIn K (.ref f_element_played) = true)
    (a_elements_played : PySem.W.nsIn K mainGlobals "elements_played" = some (some (.ref f_elements_played))) (l_elements_played : K.lookup f_elements_played = some ⟨oc_elements_played, od_elements_played, .func (PySem.W.fnOf "elements_played" "elements_played" (defArgs s_elements_played) (defBody s_elements_played) (defScope s_elements_played) .none kV_elements_played dc_elements_played pm_elements_played an_elements_played cd_elements_played ct_elements_played), sl_elements_played⟩) (c_elements_played : PySem.W.codeIn K cd_elements_played "elements_played" = true) (k_elements_played : PySem.W.keepIn K (.ref f_elements_played) = true)
    (a_till_played : PySem.W.nsIn K mainGlobals "till_played" = some (some (.ref f_till_played))) (l_till_played : K.lookup f_till_played = some ⟨oc_till_played, od_till_played, .func (PySem.W.fnOf "till_played" "till_played" (defArgs s_till_played) (defBody s_till_played) (defScope s_till_played) .none kV_till_played dc_till_played pm_till_played an_till_played cd_till_played ct_till_played), sl_till_played⟩) (c_till_played : PySem.W.codeIn K cd_till_played "till_played" = true) (k_till_played : PySem.W.keepIn K (.ref f_till_played) = true)
    (a_steps_played : PySem.W.nsIn K mainGlobals "steps_played" = some (some (.ref f_steps_played))) (l_steps_played : K.lookup f_steps_played = some ⟨oc_steps_played, od_steps_played, .func (PySem.W.fnOf "steps_played" "steps_played" (defArgs s_steps_played) (defBody s_steps_played) (defScope s_steps_played) .none kV_steps_played dc_steps_played pm_steps_played an_steps_played cd_steps_played ct_steps_played), sl_steps_played⟩) (c_steps_played : PySem.W.codeIn K cd_steps_played "steps_played" = true) (k_steps_played : PySem.W.keepIn K (.ref f_steps_played) = true)
    (a_played : PySem.W.nsIn K mainGlobals "played" = some (some (.ref f_played))) (l_played : K.lookup f_played = some ⟨oc_played, od_played, .func (PySem.W.fnOf "played" "played" (defArgs s_played) (defBody s_played) (defScope s_played) .none kV_played dc_played pm_played an_played cd_played ct_played), sl_played⟩) (c_played : PySem.W.codeIn K cd_played "played" = true) (k_played : PySem.W.keepIn K (.ref f_played) = true)
    (a_l_whole : PySem.W.nsIn K mainGlobals "_law_whole" = some (some (.ref f_l_whole))) (l_l_whole : K.lookup f_l_whole = some ⟨oc_l_whole, od_l_whole, .func (PySem.W.fnOf "_law_whole" "_law_whole" (defArgs s_l_whole) (defBody s_l_whole) (defScope s_l_whole) .none kV_l_whole dc_l_whole pm_l_whole an_l_whole cd_l_whole ct_l_whole), sl_l_whole⟩) (c_l_whole : PySem.W.codeIn K cd_l_whole "_law_whole" = true) (k_l_whole : PySem.W.keepIn K (.ref f_l_whole) = true)
    (a_l_kept_by : PySem.W.nsIn K mainGlobals "_law_kept_by" = some (some (.ref f_l_kept_by))) (l_l_kept_by : K.lookup f_l_kept_by = some ⟨oc_l_kept_by, od_l_kept_by, .func (PySem.W.fnOf "_law_kept_by" "_law_kept_by" (defArgs s_l_kept_by) (defBody s_l_kept_by) (defScope s_l_kept_by) .none kV_l_kept_by dc_l_kept_by pm_l_kept_by an_l_kept_by cd_l_kept_by ct_l_kept_by), sl_l_kept_by⟩) (c_l_kept_by : PySem.W.codeIn K cd_l_kept_by "_law_kept_by" = true) (k_l_kept_by : PySem.W.keepIn K (.ref f_l_kept_by) = true)
    (a_l_mix : PySem.W.nsIn K mainGlobals "_law_mix" = some (some (.ref f_l_mix))) (l_l_mix : K.lookup f_l_mix = some ⟨oc_l_mix, od_l_mix, .func (PySem.W.fnOf "_law_mix" "_law_mix" (defArgs s_l_mix) (defBody s_l_mix) (defScope s_l_mix) .none kV_l_mix dc_l_mix pm_l_mix an_l_mix cd_l_mix ct_l_mix), sl_l_mix⟩) (c_l_mix : PySem.W.codeIn K cd_l_mix "_law_mix" = true) (k_l_mix : PySem.W.keepIn K (.ref f_l_mix) = true)
    (a_l_asked : PySem.W.nsIn K mainGlobals "_law_asked" = some (some (.ref f_l_asked))) (l_l_asked : K.lookup f_l_asked = some ⟨oc_l_asked, od_l_asked, .func (PySem.W.fnOf "_law_asked" "_law_asked" (defArgs s_l_asked) (defBody s_l_asked) (defScope s_l_asked) .none kV_l_asked dc_l_asked pm_l_asked an_l_asked cd_l_asked ct_l_asked), sl_l_asked⟩) (c_l_asked : PySem.W.codeIn K cd_l_asked "_law_asked" = true) (k_l_asked : PySem.W.keepIn K (.ref f_l_asked) = true)
    (a_l_functions : PySem.W.nsIn K mainGlobals "_law_functions" = some (some (.ref f_l_functions))) (l_l_functions : K.lookup f_l_functions = some ⟨oc_l_functions, od_l_functions, .func (PySem.W.fnOf "_law_functions" "_law_functions" (defArgs s_l_functions) (defBody s_l_functions) (defScope s_l_functions) .none kV_l_functions dc_l_functions pm_l_functions an_l_functions cd_l_functions ct_l_functions), sl_l_functions⟩) (c_l_functions : PySem.W.codeIn K cd_l_functions "_law_functions" = true) (k_l_functions : PySem.W.keepIn K (.ref f_l_functions) = true)
    (a_l_leaf_by : PySem.W.nsIn K mainGlobals "_law_leaf_by" = some (some (.ref f_l_leaf_by))) (l_l_leaf_by : K.lookup f_l_leaf_by = some ⟨oc_l_leaf_by, od_l_leaf_by, .func (PySem.W.fnOf "_law_leaf_by" "_law_leaf_by" (defArgs s_l_leaf_by) (defBody s_l_leaf_by) (defScope s_l_leaf_by) .none kV_l_leaf_by dc_l_leaf_by pm_l_leaf_by an_l_leaf_by cd_l_leaf_by ct_l_leaf_by), sl_l_leaf_by⟩) (c_l_leaf_by : PySem.W.codeIn K cd_l_leaf_by "_law_leaf_by" = true) (k_l_leaf_by : PySem.W.keepIn K (.ref f_l_leaf_by) = true)
    (a_l_value_by : PySem.W.nsIn K mainGlobals "_law_value_by" = some (some (.ref f_l_value_by))) (l_l_value_by : K.lookup f_l_value_by = some ⟨oc_l_value_by, od_l_value_by, .func (PySem.W.fnOf "_law_value_by" "_law_value_by" (defArgs s_l_value_by) (defBody s_l_value_by) (defScope s_l_value_by) .none kV_l_value_by dc_l_value_by pm_l_value_by an_l_value_by cd_l_value_by ct_l_value_by), sl_l_value_by⟩) (c_l_value_by : PySem.W.codeIn K cd_l_value_by "_law_value_by" = true) (k_l_value_by : PySem.W.keepIn K (.ref f_l_value_by) = true)
    (a_l_lengths_by : PySem.W.nsIn K mainGlobals "_law_lengths_by" = some (some (.ref f_l_lengths_by))) (l_l_lengths_by : K.lookup f_l_lengths_by = some ⟨oc_l_lengths_by, od_l_lengths_by, .func (PySem.W.fnOf "_law_lengths_by" "_law_lengths_by" (defArgs s_l_lengths_by) (defBody s_l_lengths_by) (defScope s_l_lengths_by) .none kV_l_lengths_by dc_l_lengths_by pm_l_lengths_by an_l_lengths_by cd_l_lengths_by ct_l_lengths_by), sl_l_lengths_by⟩) (c_l_lengths_by : PySem.W.codeIn K cd_l_lengths_by "_law_lengths_by" = true) (k_l_lengths_by : PySem.W.keepIn K (.ref f_l_lengths_by) = true)
    (a_l_cells_by : PySem.W.nsIn K mainGlobals "_law_cells_by" = some (some (.ref f_l_cells_by))) (l_l_cells_by : K.lookup f_l_cells_by = some ⟨oc_l_cells_by, od_l_cells_by, .func (PySem.W.fnOf "_law_cells_by" "_law_cells_by" (defArgs s_l_cells_by) (defBody s_l_cells_by) (defScope s_l_cells_by) .none kV_l_cells_by dc_l_cells_by pm_l_cells_by an_l_cells_by cd_l_cells_by ct_l_cells_by), sl_l_cells_by⟩) (c_l_cells_by : PySem.W.codeIn K cd_l_cells_by "_law_cells_by" = true) (k_l_cells_by : PySem.W.keepIn K (.ref f_l_cells_by) = true)
    (a_l_element : PySem.W.nsIn K mainGlobals "_law_element" = some (some (.ref f_l_element))) (l_l_element : K.lookup f_l_element = some ⟨oc_l_element, od_l_element, .func (PySem.W.fnOf "_law_element" "_law_element" (defArgs s_l_element) (defBody s_l_element) (defScope s_l_element) .none kV_l_element dc_l_element pm_l_element an_l_element cd_l_element ct_l_element), sl_l_element⟩) (c_l_element : PySem.W.codeIn K cd_l_element "_law_element" = true) (k_l_element : PySem.W.keepIn K (.ref f_l_element) = true)
    (a_l_told : PySem.W.nsIn K mainGlobals "_law_told" = some (some (.ref f_l_told))) (l_l_told : K.lookup f_l_told = some ⟨oc_l_told, od_l_told, .func (PySem.W.fnOf "_law_told" "_law_told" (defArgs s_l_told) (defBody s_l_told) (defScope s_l_told) .none kV_l_told dc_l_told pm_l_told an_l_told cd_l_told ct_l_told), sl_l_told⟩) (c_l_told : PySem.W.codeIn K cd_l_told "_law_told" = true) (k_l_told : PySem.W.keepIn K (.ref f_l_told) = true)
    (a_l_joined : PySem.W.nsIn K mainGlobals "_law_joined" = some (some (.ref f_l_joined))) (l_l_joined : K.lookup f_l_joined = some ⟨oc_l_joined, od_l_joined, .func (PySem.W.fnOf "_law_joined" "_law_joined" (defArgs s_l_joined) (defBody s_l_joined) (defScope s_l_joined) .none kV_l_joined dc_l_joined pm_l_joined an_l_joined cd_l_joined ct_l_joined), sl_l_joined⟩) (c_l_joined : PySem.W.codeIn K cd_l_joined "_law_joined" = true) (k_l_joined : PySem.W.keepIn K (.ref f_l_joined) = true)
    (a_l_fold_by : PySem.W.nsIn K mainGlobals "_law_fold_by" = some (some (.ref f_l_fold_by))) (l_l_fold_by : K.lookup f_l_fold_by = some ⟨oc_l_fold_by, od_l_fold_by, .func (PySem.W.fnOf "_law_fold_by" "_law_fold_by" (defArgs s_l_fold_by) (defBody s_l_fold_by) (defScope s_l_fold_by) .none kV_l_fold_by dc_l_fold_by pm_l_fold_by an_l_fold_by cd_l_fold_by ct_l_fold_by), sl_l_fold_by⟩) (c_l_fold_by : PySem.W.codeIn K cd_l_fold_by "_law_fold_by" = true) (k_l_fold_by : PySem.W.keepIn K (.ref f_l_fold_by) = true)
    (a_l_target_by : PySem.W.nsIn K mainGlobals "_law_target_by" = some (some (.ref f_l_target_by))) (l_l_target_by : K.lookup f_l_target_by = some ⟨oc_l_target_by, od_l_target_by, .func (PySem.W.fnOf "_law_target_by" "_law_target_by" (defArgs s_l_target_by) (defBody s_l_target_by) (defScope s_l_target_by) .none kV_l_target_by dc_l_target_by pm_l_target_by an_l_target_by cd_l_target_by ct_l_target_by), sl_l_target_by⟩) (c_l_target_by : PySem.W.codeIn K cd_l_target_by "_law_target_by" = true) (k_l_target_by : PySem.W.keepIn K (.ref f_l_target_by) = true)
    (a_l_many_by : PySem.W.nsIn K mainGlobals "_law_many_by" = some (some (.ref f_l_many_by))) (l_l_many_by : K.lookup f_l_many_by = some ⟨oc_l_many_by, od_l_many_by, .func (PySem.W.fnOf "_law_many_by" "_law_many_by" (defArgs s_l_many_by) (defBody s_l_many_by) (defScope s_l_many_by) .none kV_l_many_by dc_l_many_by pm_l_many_by an_l_many_by cd_l_many_by ct_l_many_by), sl_l_many_by⟩) (c_l_many_by : PySem.W.codeIn K cd_l_many_by "_law_many_by" = true) (k_l_many_by : PySem.W.keepIn K (.ref f_l_many_by) = true)
    (a_l_step_by : PySem.W.nsIn K mainGlobals "_law_step_by" = some (some (.ref f_l_step_by))) (l_l_step_by : K.lookup f_l_step_by = some ⟨oc_l_step_by, od_l_step_by, .func (PySem.W.fnOf "_law_step_by" "_law_step_by" (defArgs s_l_step_by) (defBody s_l_step_by) (defScope s_l_step_by) .none kV_l_step_by dc_l_step_by pm_l_step_by an_l_step_by cd_l_step_by ct_l_step_by), sl_l_step_by⟩) (c_l_step_by : PySem.W.codeIn K cd_l_step_by "_law_step_by" = true) (k_l_step_by : PySem.W.keepIn K (.ref f_l_step_by) = true)
    (a_l_due : PySem.W.nsIn K mainGlobals "_law_due" = some (some (.ref f_l_due))) (l_l_due : K.lookup f_l_due = some ⟨oc_l_due, od_l_due, .func (PySem.W.fnOf "_law_due" "_law_due" (defArgs s_l_due) (defBody s_l_due) (defScope s_l_due) .none kV_l_due dc_l_due pm_l_due an_l_due cd_l_due ct_l_due), sl_l_due⟩) (c_l_due : PySem.W.codeIn K cd_l_due "_law_due" = true) (k_l_due : PySem.W.keepIn K (.ref f_l_due) = true)
    (a_law : PySem.W.nsIn K mainGlobals "law" = some (some (.ref f_law))) (l_law : K.lookup f_law = some ⟨oc_law, od_law, .func (PySem.W.fnOf "law" "law" (defArgs s_law) (defBody s_law) (defScope s_law) .none kV_law dc_law pm_law an_law cd_law ct_law), sl_law⟩) (c_law : PySem.W.codeIn K cd_law "law" = true) (k_law : PySem.W.keepIn K (.ref f_law) = true)
    (a_C_Spot : PySem.W.nsIn K mainGlobals "Spot" = some (some (.ref C_Spot))) (c1_C_Spot : PySem.W.plainGet K C_Spot Str.empty = true) (c2_C_Spot : PySem.W.hasDictIn K C_Spot = true) (c3_C_Spot : PySem.W.plainOver K C_Spot = true) (c4_C_Spot : PySem.W.findIn K (.ref C_Spot) "__setattr__" = some (some (.builtin "object.__setattr__")))
    (n_C_Spot_lengths : PySem.W.findIn K (.ref C_Spot) "lengths" = some none)
    (n_C_Spot_functions : PySem.W.findIn K (.ref C_Spot) "functions" = some none)
    (n_C_Spot_cells : PySem.W.findIn K (.ref C_Spot) "cells" = some none)
    (n_C_Spot_place : PySem.W.findIn K (.ref C_Spot) "place" = some none)
    (n_C_Spot_own : PySem.W.findIn K (.ref C_Spot) "own" = some none)
    (mk_C_Spot : PySem.W.makesIn K C_Spot = true) (kC_C_Spot : PySem.W.keepIn K (.ref C_Spot) = true)
    (at_Spot_init : PySem.W.findIn K (.ref C_Spot) "__init__" = some (some (.ref f_Spot_init))) (fn_Spot_init : PySem.W.isFn K (.ref f_Spot_init) = true) (l_Spot_init : K.lookup f_Spot_init = some ⟨oc_Spot_init, od_Spot_init, .func (PySem.W.fnOf "__init__" "Spot.__init__" (defArgs s_Spot_init) (defBody s_Spot_init) (defScope s_Spot_init) .none kV_Spot_init dc_Spot_init pm_Spot_init an_Spot_init cd_Spot_init ct_Spot_init), sl_Spot_init⟩) (c_Spot_init : PySem.W.codeIn K cd_Spot_init "Spot.__init__" = true) (k_Spot_init : PySem.W.keepIn K (.ref f_Spot_init) = true)
    (a_C_Number : PySem.W.nsIn K mainGlobals "Number" = some (some (.ref C_Number))) (c1_C_Number : PySem.W.plainGet K C_Number Str.empty = true) (c2_C_Number : PySem.W.hasDictIn K C_Number = true) (c3_C_Number : PySem.W.plainOver K C_Number = true) (c4_C_Number : PySem.W.findIn K (.ref C_Number) "__setattr__" = some (some (.builtin "object.__setattr__")))
    (n_C_Number_number : PySem.W.findIn K (.ref C_Number) "number" = some none)
    (mk_C_Number : PySem.W.makesIn K C_Number = true) (kC_C_Number : PySem.W.keepIn K (.ref C_Number) = true)
    (at_Number_init : PySem.W.findIn K (.ref C_Number) "__init__" = some (some (.ref f_Number_init))) (fn_Number_init : PySem.W.isFn K (.ref f_Number_init) = true) (l_Number_init : K.lookup f_Number_init = some ⟨oc_Number_init, od_Number_init, .func (PySem.W.fnOf "__init__" "Number.__init__" (defArgs s_Number_init) (defBody s_Number_init) (defScope s_Number_init) .none kV_Number_init dc_Number_init pm_Number_init an_Number_init cd_Number_init ct_Number_init), sl_Number_init⟩) (c_Number_init : PySem.W.codeIn K cd_Number_init "Number.__init__" = true) (k_Number_init : PySem.W.keepIn K (.ref f_Number_init) = true)
    (at_Number_worth : PySem.W.findIn K (.ref C_Number) "worth" = some (some (.ref f_Number_worth))) (fn_Number_worth : PySem.W.isFn K (.ref f_Number_worth) = true) (l_Number_worth : K.lookup f_Number_worth = some ⟨oc_Number_worth, od_Number_worth, .func (PySem.W.fnOf "worth" "Number.worth" (defArgs s_Number_worth) (defBody s_Number_worth) (defScope s_Number_worth) .none kV_Number_worth dc_Number_worth pm_Number_worth an_Number_worth cd_Number_worth ct_Number_worth), sl_Number_worth⟩) (c_Number_worth : PySem.W.codeIn K cd_Number_worth "Number.worth" = true) (k_Number_worth : PySem.W.keepIn K (.ref f_Number_worth) = true)
    (a_C_Here : PySem.W.nsIn K mainGlobals "Here" = some (some (.ref C_Here))) (c1_C_Here : PySem.W.plainGet K C_Here Str.empty = true) (c2_C_Here : PySem.W.hasDictIn K C_Here = true) (c3_C_Here : PySem.W.plainOver K C_Here = true) (c4_C_Here : PySem.W.findIn K (.ref C_Here) "__setattr__" = some (some (.builtin "object.__setattr__")))
    (mk_C_Here : PySem.W.makesIn K C_Here = true) (kC_C_Here : PySem.W.keepIn K (.ref C_Here) = true) (in_C_Here : PySem.W.findIn K (.ref C_Here) "__init__" = some (some (.builtin "object.__init__")))
    (at_Here_worth : PySem.W.findIn K (.ref C_Here) "worth" = some (some (.ref f_Here_worth))) (fn_Here_worth : PySem.W.isFn K (.ref f_Here_worth) = true) (l_Here_worth : K.lookup f_Here_worth = some ⟨oc_Here_worth, od_Here_worth, .func (PySem.W.fnOf "worth" "Here.worth" (defArgs s_Here_worth) (defBody s_Here_worth) (defScope s_Here_worth) .none kV_Here_worth dc_Here_worth pm_Here_worth an_Here_worth cd_Here_worth ct_Here_worth), sl_Here_worth⟩) (c_Here_worth : PySem.W.codeIn K cd_Here_worth "Here.worth" = true) (k_Here_worth : PySem.W.keepIn K (.ref f_Here_worth) = true)
    (a_C_Cell : PySem.W.nsIn K mainGlobals "Cell" = some (some (.ref C_Cell))) (c1_C_Cell : PySem.W.plainGet K C_Cell Str.empty = true) (c2_C_Cell : PySem.W.hasDictIn K C_Cell = true) (c3_C_Cell : PySem.W.plainOver K C_Cell = true) (c4_C_Cell : PySem.W.findIn K (.ref C_Cell) "__setattr__" = some (some (.builtin "object.__setattr__")))
    (n_C_Cell_row : PySem.W.findIn K (.ref C_Cell) "row" = some none)
    (mk_C_Cell : PySem.W.makesIn K C_Cell = true) (kC_C_Cell : PySem.W.keepIn K (.ref C_Cell) = true)
    (at_Cell_init : PySem.W.findIn K (.ref C_Cell) "__init__" = some (some (.ref f_Cell_init))) (fn_Cell_init : PySem.W.isFn K (.ref f_Cell_init) = true) (l_Cell_init : K.lookup f_Cell_init = some ⟨oc_Cell_init, od_Cell_init, .func (PySem.W.fnOf "__init__" "Cell.__init__" (defArgs s_Cell_init) (defBody s_Cell_init) (defScope s_Cell_init) .none kV_Cell_init dc_Cell_init pm_Cell_init an_Cell_init cd_Cell_init ct_Cell_init), sl_Cell_init⟩) (c_Cell_init : PySem.W.codeIn K cd_Cell_init "Cell.__init__" = true) (k_Cell_init : PySem.W.keepIn K (.ref f_Cell_init) = true)
    (at_Cell_worth : PySem.W.findIn K (.ref C_Cell) "worth" = some (some (.ref f_Cell_worth))) (fn_Cell_worth : PySem.W.isFn K (.ref f_Cell_worth) = true) (l_Cell_worth : K.lookup f_Cell_worth = some ⟨oc_Cell_worth, od_Cell_worth, .func (PySem.W.fnOf "worth" "Cell.worth" (defArgs s_Cell_worth) (defBody s_Cell_worth) (defScope s_Cell_worth) .none kV_Cell_worth dc_Cell_worth pm_Cell_worth an_Cell_worth cd_Cell_worth ct_Cell_worth), sl_Cell_worth⟩) (c_Cell_worth : PySem.W.codeIn K cd_Cell_worth "Cell.worth" = true) (k_Cell_worth : PySem.W.keepIn K (.ref f_Cell_worth) = true)
    (a_C_Shifted : PySem.W.nsIn K mainGlobals "Shifted" = some (some (.ref C_Shifted))) (c1_C_Shifted : PySem.W.plainGet K C_Shifted Str.empty = true) (c2_C_Shifted : PySem.W.hasDictIn K C_Shifted = true) (c3_C_Shifted : PySem.W.plainOver K C_Shifted = true) (c4_C_Shifted : PySem.W.findIn K (.ref C_Shifted) "__setattr__" = some (some (.builtin "object.__setattr__")))
    (n_C_Shifted_row : PySem.W.findIn K (.ref C_Shifted) "row" = some none)
    (n_C_Shifted_by : PySem.W.findIn K (.ref C_Shifted) "by" = some none)
    (n_C_Shifted_other : PySem.W.findIn K (.ref C_Shifted) "other" = some none)
    (mk_C_Shifted : PySem.W.makesIn K C_Shifted = true) (kC_C_Shifted : PySem.W.keepIn K (.ref C_Shifted) = true)
    (at_Shifted_init : PySem.W.findIn K (.ref C_Shifted) "__init__" = some (some (.ref f_Shifted_init))) (fn_Shifted_init : PySem.W.isFn K (.ref f_Shifted_init) = true) (l_Shifted_init : K.lookup f_Shifted_init = some ⟨oc_Shifted_init, od_Shifted_init, .func (PySem.W.fnOf "__init__" "Shifted.__init__" (defArgs s_Shifted_init) (defBody s_Shifted_init) (defScope s_Shifted_init) .none kV_Shifted_init dc_Shifted_init pm_Shifted_init an_Shifted_init cd_Shifted_init ct_Shifted_init), sl_Shifted_init⟩) (c_Shifted_init : PySem.W.codeIn K cd_Shifted_init "Shifted.__init__" = true) (k_Shifted_init : PySem.W.keepIn K (.ref f_Shifted_init) = true)
    (at_Shifted_worth : PySem.W.findIn K (.ref C_Shifted) "worth" = some (some (.ref f_Shifted_worth))) (fn_Shifted_worth : PySem.W.isFn K (.ref f_Shifted_worth) = true) (l_Shifted_worth : K.lookup f_Shifted_worth = some ⟨oc_Shifted_worth, od_Shifted_worth, .func (PySem.W.fnOf "worth" "Shifted.worth" (defArgs s_Shifted_worth) (defBody s_Shifted_worth) (defScope s_Shifted_worth) .none kV_Shifted_worth dc_Shifted_worth pm_Shifted_worth an_Shifted_worth cd_Shifted_worth ct_Shifted_worth), sl_Shifted_worth⟩) (c_Shifted_worth : PySem.W.codeIn K cd_Shifted_worth "Shifted.worth" = true) (k_Shifted_worth : PySem.W.keepIn K (.ref f_Shifted_worth) = true)
    (a_C_Local : PySem.W.nsIn K mainGlobals "Local" = some (some (.ref C_Local))) (c1_C_Local : PySem.W.plainGet K C_Local Str.empty = true) (c2_C_Local : PySem.W.hasDictIn K C_Local = true) (c3_C_Local : PySem.W.plainOver K C_Local = true) (c4_C_Local : PySem.W.findIn K (.ref C_Local) "__setattr__" = some (some (.builtin "object.__setattr__")))
    (n_C_Local_at : PySem.W.findIn K (.ref C_Local) "at" = some none)
    (mk_C_Local : PySem.W.makesIn K C_Local = true) (kC_C_Local : PySem.W.keepIn K (.ref C_Local) = true)
    (at_Local_init : PySem.W.findIn K (.ref C_Local) "__init__" = some (some (.ref f_Local_init))) (fn_Local_init : PySem.W.isFn K (.ref f_Local_init) = true) (l_Local_init : K.lookup f_Local_init = some ⟨oc_Local_init, od_Local_init, .func (PySem.W.fnOf "__init__" "Local.__init__" (defArgs s_Local_init) (defBody s_Local_init) (defScope s_Local_init) .none kV_Local_init dc_Local_init pm_Local_init an_Local_init cd_Local_init ct_Local_init), sl_Local_init⟩) (c_Local_init : PySem.W.codeIn K cd_Local_init "Local.__init__" = true) (k_Local_init : PySem.W.keepIn K (.ref f_Local_init) = true)
    (at_Local_worth : PySem.W.findIn K (.ref C_Local) "worth" = some (some (.ref f_Local_worth))) (fn_Local_worth : PySem.W.isFn K (.ref f_Local_worth) = true) (l_Local_worth : K.lookup f_Local_worth = some ⟨oc_Local_worth, od_Local_worth, .func (PySem.W.fnOf "worth" "Local.worth" (defArgs s_Local_worth) (defBody s_Local_worth) (defScope s_Local_worth) .none kV_Local_worth dc_Local_worth pm_Local_worth an_Local_worth cd_Local_worth ct_Local_worth), sl_Local_worth⟩) (c_Local_worth : PySem.W.codeIn K cd_Local_worth "Local.worth" = true) (k_Local_worth : PySem.W.keepIn K (.ref f_Local_worth) = true)
    (a_C_At : PySem.W.nsIn K mainGlobals "At" = some (some (.ref C_At))) (c1_C_At : PySem.W.plainGet K C_At Str.empty = true) (c2_C_At : PySem.W.hasDictIn K C_At = true) (c3_C_At : PySem.W.plainOver K C_At = true) (c4_C_At : PySem.W.findIn K (.ref C_At) "__setattr__" = some (some (.builtin "object.__setattr__")))
    (n_C_At_row : PySem.W.findIn K (.ref C_At) "row" = some none)
    (n_C_At_place : PySem.W.findIn K (.ref C_At) "place" = some none)
    (mk_C_At : PySem.W.makesIn K C_At = true) (kC_C_At : PySem.W.keepIn K (.ref C_At) = true)
    (at_At_init : PySem.W.findIn K (.ref C_At) "__init__" = some (some (.ref f_At_init))) (fn_At_init : PySem.W.isFn K (.ref f_At_init) = true) (l_At_init : K.lookup f_At_init = some ⟨oc_At_init, od_At_init, .func (PySem.W.fnOf "__init__" "At.__init__" (defArgs s_At_init) (defBody s_At_init) (defScope s_At_init) .none kV_At_init dc_At_init pm_At_init an_At_init cd_At_init ct_At_init), sl_At_init⟩) (c_At_init : PySem.W.codeIn K cd_At_init "At.__init__" = true) (k_At_init : PySem.W.keepIn K (.ref f_At_init) = true)
    (at_At_worth : PySem.W.findIn K (.ref C_At) "worth" = some (some (.ref f_At_worth))) (fn_At_worth : PySem.W.isFn K (.ref f_At_worth) = true) (l_At_worth : K.lookup f_At_worth = some ⟨oc_At_worth, od_At_worth, .func (PySem.W.fnOf "worth" "At.worth" (defArgs s_At_worth) (defBody s_At_worth) (defScope s_At_worth) .none kV_At_worth dc_At_worth pm_At_worth an_At_worth cd_At_worth ct_At_worth), sl_At_worth⟩) (c_At_worth : PySem.W.codeIn K cd_At_worth "At.worth" = true) (k_At_worth : PySem.W.keepIn K (.ref f_At_worth) = true)
    (a_C_Pair : PySem.W.nsIn K mainGlobals "Pair" = some (some (.ref C_Pair))) (c1_C_Pair : PySem.W.plainGet K C_Pair Str.empty = true) (c2_C_Pair : PySem.W.hasDictIn K C_Pair = true) (c3_C_Pair : PySem.W.plainOver K C_Pair = true) (c4_C_Pair : PySem.W.findIn K (.ref C_Pair) "__setattr__" = some (some (.builtin "object.__setattr__")))
    (n_C_Pair_sign : PySem.W.findIn K (.ref C_Pair) "sign" = some none)
    (n_C_Pair_left : PySem.W.findIn K (.ref C_Pair) "left" = some none)
    (n_C_Pair_right : PySem.W.findIn K (.ref C_Pair) "right" = some none)
    (mk_C_Pair : PySem.W.makesIn K C_Pair = true) (kC_C_Pair : PySem.W.keepIn K (.ref C_Pair) = true)
    (at_Pair_init : PySem.W.findIn K (.ref C_Pair) "__init__" = some (some (.ref f_Pair_init))) (fn_Pair_init : PySem.W.isFn K (.ref f_Pair_init) = true) (l_Pair_init : K.lookup f_Pair_init = some ⟨oc_Pair_init, od_Pair_init, .func (PySem.W.fnOf "__init__" "Pair.__init__" (defArgs s_Pair_init) (defBody s_Pair_init) (defScope s_Pair_init) .none kV_Pair_init dc_Pair_init pm_Pair_init an_Pair_init cd_Pair_init ct_Pair_init), sl_Pair_init⟩) (c_Pair_init : PySem.W.codeIn K cd_Pair_init "Pair.__init__" = true) (k_Pair_init : PySem.W.keepIn K (.ref f_Pair_init) = true)
    (at_Pair_worth : PySem.W.findIn K (.ref C_Pair) "worth" = some (some (.ref f_Pair_worth))) (fn_Pair_worth : PySem.W.isFn K (.ref f_Pair_worth) = true) (l_Pair_worth : K.lookup f_Pair_worth = some ⟨oc_Pair_worth, od_Pair_worth, .func (PySem.W.fnOf "worth" "Pair.worth" (defArgs s_Pair_worth) (defBody s_Pair_worth) (defScope s_Pair_worth) .none kV_Pair_worth dc_Pair_worth pm_Pair_worth an_Pair_worth cd_Pair_worth ct_Pair_worth), sl_Pair_worth⟩) (c_Pair_worth : PySem.W.codeIn K cd_Pair_worth "Pair.worth" = true) (k_Pair_worth : PySem.W.keepIn K (.ref f_Pair_worth) = true)
    (a_C_Choice : PySem.W.nsIn K mainGlobals "Choice" = some (some (.ref C_Choice))) (c1_C_Choice : PySem.W.plainGet K C_Choice Str.empty = true) (c2_C_Choice : PySem.W.hasDictIn K C_Choice = true) (c3_C_Choice : PySem.W.plainOver K C_Choice = true) (c4_C_Choice : PySem.W.findIn K (.ref C_Choice) "__setattr__" = some (some (.builtin "object.__setattr__")))
    (n_C_Choice_test : PySem.W.findIn K (.ref C_Choice) "test" = some none)
    (n_C_Choice_left : PySem.W.findIn K (.ref C_Choice) "left" = some none)
    (n_C_Choice_right : PySem.W.findIn K (.ref C_Choice) "right" = some none)
    (mk_C_Choice : PySem.W.makesIn K C_Choice = true) (kC_C_Choice : PySem.W.keepIn K (.ref C_Choice) = true)
    (at_Choice_init : PySem.W.findIn K (.ref C_Choice) "__init__" = some (some (.ref f_Choice_init))) (fn_Choice_init : PySem.W.isFn K (.ref f_Choice_init) = true) (l_Choice_init : K.lookup f_Choice_init = some ⟨oc_Choice_init, od_Choice_init, .func (PySem.W.fnOf "__init__" "Choice.__init__" (defArgs s_Choice_init) (defBody s_Choice_init) (defScope s_Choice_init) .none kV_Choice_init dc_Choice_init pm_Choice_init an_Choice_init cd_Choice_init ct_Choice_init), sl_Choice_init⟩) (c_Choice_init : PySem.W.codeIn K cd_Choice_init "Choice.__init__" = true) (k_Choice_init : PySem.W.keepIn K (.ref f_Choice_init) = true)
    (at_Choice_worth : PySem.W.findIn K (.ref C_Choice) "worth" = some (some (.ref f_Choice_worth))) (fn_Choice_worth : PySem.W.isFn K (.ref f_Choice_worth) = true) (l_Choice_worth : K.lookup f_Choice_worth = some ⟨oc_Choice_worth, od_Choice_worth, .func (PySem.W.fnOf "worth" "Choice.worth" (defArgs s_Choice_worth) (defBody s_Choice_worth) (defScope s_Choice_worth) .none kV_Choice_worth dc_Choice_worth pm_Choice_worth an_Choice_worth cd_Choice_worth ct_Choice_worth), sl_Choice_worth⟩) (c_Choice_worth : PySem.W.codeIn K cd_Choice_worth "Choice.worth" = true) (k_Choice_worth : PySem.W.keepIn K (.ref f_Choice_worth) = true)
    (a_C_Call : PySem.W.nsIn K mainGlobals "Call" = some (some (.ref C_Call))) (c1_C_Call : PySem.W.plainGet K C_Call Str.empty = true) (c2_C_Call : PySem.W.hasDictIn K C_Call = true) (c3_C_Call : PySem.W.plainOver K C_Call = true) (c4_C_Call : PySem.W.findIn K (.ref C_Call) "__setattr__" = some (some (.builtin "object.__setattr__")))
    (n_C_Call_at : PySem.W.findIn K (.ref C_Call) "at" = some none)
    (n_C_Call_handed : PySem.W.findIn K (.ref C_Call) "handed" = some none)
    (mk_C_Call : PySem.W.makesIn K C_Call = true) (kC_C_Call : PySem.W.keepIn K (.ref C_Call) = true)
    (at_Call_init : PySem.W.findIn K (.ref C_Call) "__init__" = some (some (.ref f_Call_init))) (fn_Call_init : PySem.W.isFn K (.ref f_Call_init) = true) (l_Call_init : K.lookup f_Call_init = some ⟨oc_Call_init, od_Call_init, .func (PySem.W.fnOf "__init__" "Call.__init__" (defArgs s_Call_init) (defBody s_Call_init) (defScope s_Call_init) .none kV_Call_init dc_Call_init pm_Call_init an_Call_init cd_Call_init ct_Call_init), sl_Call_init⟩) (c_Call_init : PySem.W.codeIn K cd_Call_init "Call.__init__" = true) (k_Call_init : PySem.W.keepIn K (.ref f_Call_init) = true)
    (at_Call_worth : PySem.W.findIn K (.ref C_Call) "worth" = some (some (.ref f_Call_worth))) (fn_Call_worth : PySem.W.isFn K (.ref f_Call_worth) = true) (l_Call_worth : K.lookup f_Call_worth = some ⟨oc_Call_worth, od_Call_worth, .func (PySem.W.fnOf "worth" "Call.worth" (defArgs s_Call_worth) (defBody s_Call_worth) (defScope s_Call_worth) .none kV_Call_worth dc_Call_worth pm_Call_worth an_Call_worth cd_Call_worth ct_Call_worth), sl_Call_worth⟩) (c_Call_worth : PySem.W.codeIn K cd_Call_worth "Call.worth" = true) (k_Call_worth : PySem.W.keepIn K (.ref f_Call_worth) = true)
    (a_C_Fold : PySem.W.nsIn K mainGlobals "Fold" = some (some (.ref C_Fold))) (c1_C_Fold : PySem.W.plainGet K C_Fold Str.empty = true) (c2_C_Fold : PySem.W.hasDictIn K C_Fold = true) (c3_C_Fold : PySem.W.plainOver K C_Fold = true) (c4_C_Fold : PySem.W.findIn K (.ref C_Fold) "__setattr__" = some (some (.builtin "object.__setattr__")))
    (n_C_Fold_target : PySem.W.findIn K (.ref C_Fold) "target" = some none)
    (n_C_Fold_fold : PySem.W.findIn K (.ref C_Fold) "fold" = some none)
    (n_C_Fold_value : PySem.W.findIn K (.ref C_Fold) "value" = some none)
    (n_C_Fold_many : PySem.W.findIn K (.ref C_Fold) "many" = some none)
    (n_C_Fold_test : PySem.W.findIn K (.ref C_Fold) "test" = some none)
    (mk_C_Fold : PySem.W.makesIn K C_Fold = true) (kC_C_Fold : PySem.W.keepIn K (.ref C_Fold) = true)
    (at_Fold_init : PySem.W.findIn K (.ref C_Fold) "__init__" = some (some (.ref f_Fold_init))) (fn_Fold_init : PySem.W.isFn K (.ref f_Fold_init) = true) (l_Fold_init : K.lookup f_Fold_init = some ⟨oc_Fold_init, od_Fold_init, .func (PySem.W.fnOf "__init__" "Fold.__init__" (defArgs s_Fold_init) (defBody s_Fold_init) (defScope s_Fold_init) (.ref T_Fold_init) kV_Fold_init dc_Fold_init pm_Fold_init an_Fold_init cd_Fold_init ct_Fold_init), sl_Fold_init⟩) (c_Fold_init : PySem.W.codeIn K cd_Fold_init "Fold.__init__" = true) (k_Fold_init : PySem.W.keepIn K (.ref f_Fold_init) = true)
    (lT_Fold_init : K.lookup T_Fold_init = some ⟨ocT_Fold_init, odT_Fold_init, .seq #[.none] nT_Fold_init, slT_Fold_init⟩)
    (at_Fold_many_of : PySem.W.findIn K (.ref C_Fold) "many_of" = some (some (.ref f_Fold_many_of))) (fn_Fold_many_of : PySem.W.isFn K (.ref f_Fold_many_of) = true) (l_Fold_many_of : K.lookup f_Fold_many_of = some ⟨oc_Fold_many_of, od_Fold_many_of, .func (PySem.W.fnOf "many_of" "Fold.many_of" (defArgs s_Fold_many_of) (defBody s_Fold_many_of) (defScope s_Fold_many_of) .none kV_Fold_many_of dc_Fold_many_of pm_Fold_many_of an_Fold_many_of cd_Fold_many_of ct_Fold_many_of), sl_Fold_many_of⟩) (c_Fold_many_of : PySem.W.codeIn K cd_Fold_many_of "Fold.many_of" = true) (k_Fold_many_of : PySem.W.keepIn K (.ref f_Fold_many_of) = true)
    (a_C_Running : PySem.W.nsIn K mainGlobals "Running" = some (some (.ref C_Running))) (c1_C_Running : PySem.W.plainGet K C_Running Str.empty = true) (c2_C_Running : PySem.W.hasDictIn K C_Running = true) (c3_C_Running : PySem.W.plainOver K C_Running = true) (c4_C_Running : PySem.W.findIn K (.ref C_Running) "__setattr__" = some (some (.builtin "object.__setattr__")))
    (n_C_Running_target : PySem.W.findIn K (.ref C_Running) "target" = some none)
    (n_C_Running_fold : PySem.W.findIn K (.ref C_Running) "fold" = some none)
    (n_C_Running_value : PySem.W.findIn K (.ref C_Running) "value" = some none)
    (n_C_Running_test : PySem.W.findIn K (.ref C_Running) "test" = some none)
    (mk_C_Running : PySem.W.makesIn K C_Running = true) (kC_C_Running : PySem.W.keepIn K (.ref C_Running) = true)
    (at_Running_init : PySem.W.findIn K (.ref C_Running) "__init__" = some (some (.ref f_Running_init))) (fn_Running_init : PySem.W.isFn K (.ref f_Running_init) = true) (l_Running_init : K.lookup f_Running_init = some ⟨oc_Running_init, od_Running_init, .func (PySem.W.fnOf "__init__" "Running.__init__" (defArgs s_Running_init) (defBody s_Running_init) (defScope s_Running_init) (.ref T_Running_init) kV_Running_init dc_Running_init pm_Running_init an_Running_init cd_Running_init ct_Running_init), sl_Running_init⟩) (c_Running_init : PySem.W.codeIn K cd_Running_init "Running.__init__" = true) (k_Running_init : PySem.W.keepIn K (.ref f_Running_init) = true)
    (lT_Running_init : K.lookup T_Running_init = some ⟨ocT_Running_init, odT_Running_init, .seq #[.none] nT_Running_init, slT_Running_init⟩)
    (at_Running_many_of : PySem.W.findIn K (.ref C_Running) "many_of" = some (some (.ref f_Running_many_of))) (fn_Running_many_of : PySem.W.isFn K (.ref f_Running_many_of) = true) (l_Running_many_of : K.lookup f_Running_many_of = some ⟨oc_Running_many_of, od_Running_many_of, .func (PySem.W.fnOf "many_of" "Running.many_of" (defArgs s_Running_many_of) (defBody s_Running_many_of) (defScope s_Running_many_of) .none kV_Running_many_of dc_Running_many_of pm_Running_many_of an_Running_many_of cd_Running_many_of ct_Running_many_of), sl_Running_many_of⟩) (c_Running_many_of : PySem.W.codeIn K cd_Running_many_of "Running.many_of" = true) (k_Running_many_of : PySem.W.keepIn K (.ref f_Running_many_of) = true)
    (a_C_Program : PySem.W.nsIn K mainGlobals "Program" = some (some (.ref C_Program))) (c1_C_Program : PySem.W.plainGet K C_Program Str.empty = true) (c2_C_Program : PySem.W.hasDictIn K C_Program = true) (c3_C_Program : PySem.W.plainOver K C_Program = true) (c4_C_Program : PySem.W.findIn K (.ref C_Program) "__setattr__" = some (some (.builtin "object.__setattr__")))
    (n_C_Program_lengths : PySem.W.findIn K (.ref C_Program) "lengths" = some none)
    (n_C_Program_functions : PySem.W.findIn K (.ref C_Program) "functions" = some none)
    (n_C_Program_steps : PySem.W.findIn K (.ref C_Program) "steps" = some none)
    (mk_C_Program : PySem.W.makesIn K C_Program = true) (kC_C_Program : PySem.W.keepIn K (.ref C_Program) = true)
    (at_Program_init : PySem.W.findIn K (.ref C_Program) "__init__" = some (some (.ref f_Program_init))) (fn_Program_init : PySem.W.isFn K (.ref f_Program_init) = true) (l_Program_init : K.lookup f_Program_init = some ⟨oc_Program_init, od_Program_init, .func (PySem.W.fnOf "__init__" "Program.__init__" (defArgs s_Program_init) (defBody s_Program_init) (defScope s_Program_init) .none kV_Program_init dc_Program_init pm_Program_init an_Program_init cd_Program_init ct_Program_init), sl_Program_init⟩) (c_Program_init : PySem.W.codeIn K cd_Program_init "Program.__init__" = true) (k_Program_init : PySem.W.keepIn K (.ref f_Program_init) = true)
    (b_CN : PySem.W.nsIn K mainGlobals "ByNought" = some (some (.ref CN)))
    (b_OU : PySem.W.nsIn K mainGlobals "Outside" = some (some (.ref OU)))
    (b_PU : PySem.W.nsIn K mainGlobals "Put" = some (some (.ref PU)))
    (b_TI : PySem.W.nsIn K mainGlobals "Till" = some (some (.ref TI)))
    (b_SX : PySem.W.nsIn K mainGlobals "Step" = some (some (.ref SX)))
    (x_CN : PySem.W.excIn K CN [.type "ValueError", .type "Exception", .type "BaseException", .type "object"] "ValueError.__new__" = true)
    (x_OU : PySem.W.excIn K OU [.type "ValueError", .type "Exception", .type "BaseException", .type "object"] "ValueError.__new__" = true)
    (e1_CN : PySem.W.findIn K (.ref CN) "__getattribute__" = some (some (.builtin "BaseException.__getattribute__")))
    (e7_CN : PySem.W.findIn K (.ref CN) "__getattr__" = some none)
    (e8_CN : PySem.W.subIn K (.ref CN) (.type "BaseException") = some true)
    (e2_CN : PySem.W.hasDictIn K CN = true)
    (e3_CN : PySem.W.findIn K (.ref CN) "__class__" = some (some (.builtin "object.__class__")))
    (e4_CN : PySem.W.specialIn K (.builtin "object.__class__") "__get__" = some (some (.builtin "getset_descriptor.__get__")))
    (e5_CN : PySem.W.takesIn K (.builtin "object.__class__") = some true)
    (e6_CN : PySem.W.mroIn K CN (.type "object") = some true)
    (m_CN_CN : PySem.W.exmOne K (.ref CN) (.ref CN) = some true)
    (m_OU_CN : PySem.W.exmOne K (.ref OU) (.ref CN) = some false)
    (m_OU_OU : PySem.W.exmOne K (.ref OU) (.ref OU) = some true)
    (kno : PySem.W.kitOne K (.ref CN) (.ref OU) = some false)
    (aH : PySem.W.nsIn K mainGlobals "HALF" = some (some (.int 9223372036854775808 tH)))
    (aS : PySem.W.nsIn K mainGlobals "SIGNS" = some (some (.ref S)))
    (lS : K.lookup S = some ⟨.type "dict", none, .dict es nS, #[]⟩)
    (kS : PySem.W.KeysLit w.params es.toList)
    (g0 : PySem.W.nsIn K S "+" = some (some (.ref f_plus)))
    (g1 : PySem.W.nsIn K S "-" = some (some (.ref f_minus)))
    (g2 : PySem.W.nsIn K S "*" = some (some (.ref f_times)))
    (g3 : PySem.W.nsIn K S "/" = some (some (.ref f_quotient)))
    (g4 : PySem.W.nsIn K S "rest" = some (some (.ref f_remainder)))
    (g5 : PySem.W.nsIn K S "least" = some (some (.ref f_lesser)))
    (g6 : PySem.W.nsIn K S "most" = some (some (.ref f_greater)))
    (g7 : PySem.W.nsIn K S "<" = some (some (.ref f_is_less)))
    (g8 : PySem.W.nsIn K S "=" = some (some (.ref f_is_equal)))
    (g9 : PySem.W.nsIn K S "&" = some (some (.ref f_bits_of_both)))
    (g10 : PySem.W.nsIn K S "|" = some (some (.ref f_bits_of_either)))
    (g11 : PySem.W.nsIn K S "^" = some (some (.ref f_bits_of_one)))
    (k5 : PySem.W.kitOne K (.type "int") (.type "int") = some true)
    (k6 : PySem.W.kitOne K (.type "int") (.type "bool") = some false)
    (i1_Fold : PySem.W.findIn K (.ref C_Fold) "__class__" = some (some (.builtin "object.__class__")))
    (i2_Fold : PySem.W.specialIn K (.builtin "object.__class__") "__get__" = some (some (.builtin "getset_descriptor.__get__")))
    (i3_Fold : PySem.W.takesIn K (.builtin "object.__class__") = some true)
    (i4_Fold : PySem.W.mroIn K C_Fold (.type "object") = some true)
    (kl_Fold_Fold : PySem.W.kitOne K (.ref C_Fold) (.ref C_Fold) = some true)
    (kl_Fold_Running : PySem.W.kitOne K (.ref C_Fold) (.ref C_Running) = some false)
    (kl_Fold_Put : PySem.W.kitOne K (.ref C_Fold) (.ref PU) = some false)
    (kl_Fold_Till : PySem.W.kitOne K (.ref C_Fold) (.ref TI) = some false)
    (kl_Fold_Step : PySem.W.kitOne K (.ref C_Fold) (.ref SX) = some true)
    (i1_Running : PySem.W.findIn K (.ref C_Running) "__class__" = some (some (.builtin "object.__class__")))
    (i2_Running : PySem.W.specialIn K (.builtin "object.__class__") "__get__" = some (some (.builtin "getset_descriptor.__get__")))
    (i3_Running : PySem.W.takesIn K (.builtin "object.__class__") = some true)
    (i4_Running : PySem.W.mroIn K C_Running (.type "object") = some true)
    (kl_Running_Fold : PySem.W.kitOne K (.ref C_Running) (.ref C_Fold) = some false)
    (kl_Running_Running : PySem.W.kitOne K (.ref C_Running) (.ref C_Running) = some true)
    (kl_Running_Put : PySem.W.kitOne K (.ref C_Running) (.ref PU) = some false)
    (kl_Running_Till : PySem.W.kitOne K (.ref C_Running) (.ref TI) = some false)
    (kl_Running_Step : PySem.W.kitOne K (.ref C_Running) (.ref SX) = some true)
    (kt_tuple : PySem.W.kitOne K (.type "tuple") (.type "tuple") = some true)
    (kt_list : PySem.W.kitOne K (.type "list") (.type "list") = some true)
    (kt_str : PySem.W.kitOne K (.type "str") (.type "str") = some true)
    (aC : PySem.W.nsIn K mainGlobals "CAP" = some (some (.int 1000000000 tC)))
    (aF : PySem.W.nsIn K mainGlobals "FREE_FOLDS" = some (some (.ref SF)))
    (lF : K.lookup SF = some ⟨.type "dict", none, .dict esF nF, #[]⟩)
    (kF : PySem.W.KeysLit w.params esF.toList)
    (aO : PySem.W.nsIn K mainGlobals "ORDERED_FOLDS" = some (some (.ref SO)))
    (lO : K.lookup SO = some ⟨.type "dict", none, .dict esO nO, #[]⟩)
    (kO : PySem.W.KeysLit w.params esO.toList)
    (h0 : PySem.W.nsIn K SF "sum" = some (some (.ref f_plus)))
    (h1 : PySem.W.nsIn K SF "product" = some (some (.ref f_times)))
    (h2 : PySem.W.nsIn K SF "least" = some (some (.ref f_lesser)))
    (h3 : PySem.W.nsIn K SF "most" = some (some (.ref f_greater)))
    (h4 : PySem.W.nsIn K SF "both" = some (some (.ref f_bits_of_both)))
    (h5 : PySem.W.nsIn K SF "either" = some (some (.ref f_bits_of_either)))
    (h6 : PySem.W.nsIn K SF "odd" = some (some (.ref f_bits_of_one)))
    (n1 : PySem.W.nsIn K SF "chain" = some none)
    (n2 : PySem.W.nsIn K SF "capped" = some none)
    (lo : (SF == sysModules) = false)
    (h7 : PySem.W.nsIn K SO "chain" = some (some (.ref f_chained)))
    (h8 : PySem.W.nsIn K SO "capped" = some (some (.ref f_capped)))
    (z_isinstance : PySem.W.nsIn K mainGlobals "isinstance" = some none)
    (z_int : PySem.W.nsIn K mainGlobals "int" = some none)
    (z_bool : PySem.W.nsIn K mainGlobals "bool" = some none)
    (z_min : PySem.W.nsIn K mainGlobals "min" = some none)
    (z_max : PySem.W.nsIn K mainGlobals "max" = some none)
    (z_len : PySem.W.nsIn K mainGlobals "len" = some none)
    (z_range : PySem.W.nsIn K mainGlobals "range" = some none)
    (z_sum : PySem.W.nsIn K mainGlobals "sum" = some none)
    (z_list : PySem.W.nsIn K mainGlobals "list" = some none)
    (z_tuple : PySem.W.nsIn K mainGlobals "tuple" = some none)
    (z_str : PySem.W.nsIn K mainGlobals "str" = some none)
    : ∃ fd : FuncData, (∀ (s : Shared) (v : Value), BindsTo s fd ⟨[v], []⟩ [("_law_script", v)]) ∧ ∀ base : Heap, K.In base → base.Ns mainGlobals mg → FnOk l.prog w K mg base CX0 14 fa fd ["_law_script"] (spLaw K) := by
  have e := hfa.symm.trans (PySem.W.mg_of X G a_law)
  cases e
  have d_kept : DefIn K mg "kept" s_kept ["number"] := defIn_mk X G a_kept l_kept c_kept k_kept fun _ _ _ _ _ _ us hl => match us, hl with | [_], _ => rfl
  have d_plus : DefIn K mg "plus" s_plus ["left", "right"] := defIn_mk X G a_plus l_plus c_plus k_plus fun _ _ _ _ _ _ us hl => match us, hl with | [_, _], _ => rfl
  have d_minus : DefIn K mg "minus" s_minus ["left", "right"] := defIn_mk X G a_minus l_minus c_minus k_minus fun _ _ _ _ _ _ us hl => match us, hl with | [_, _], _ => rfl
  have d_times : DefIn K mg "times" s_times ["left", "right"] := defIn_mk X G a_times l_times c_times k_times fun _ _ _ _ _ _ us hl => match us, hl with | [_, _], _ => rfl
  have d_refuse_nought : DefIn K mg "refuse_nought" s_refuse_nought ["right"] := defIn_mk X G a_refuse_nought l_refuse_nought c_refuse_nought k_refuse_nought fun _ _ _ _ _ _ us hl => match us, hl with | [_], _ => rfl
  have d_quotient : DefIn K mg "quotient" s_quotient ["left", "right"] := defIn_mk X G a_quotient l_quotient c_quotient k_quotient fun _ _ _ _ _ _ us hl => match us, hl with | [_, _], _ => rfl
  have d_remainder : DefIn K mg "remainder" s_remainder ["left", "right"] := defIn_mk X G a_remainder l_remainder c_remainder k_remainder fun _ _ _ _ _ _ us hl => match us, hl with | [_, _], _ => rfl
  have d_lesser : DefIn K mg "lesser" s_lesser ["left", "right"] := defIn_mk X G a_lesser l_lesser c_lesser k_lesser fun _ _ _ _ _ _ us hl => match us, hl with | [_, _], _ => rfl
  have d_greater : DefIn K mg "greater" s_greater ["left", "right"] := defIn_mk X G a_greater l_greater c_greater k_greater fun _ _ _ _ _ _ us hl => match us, hl with | [_, _], _ => rfl
  have d_is_less : DefIn K mg "is_less" s_is_less ["left", "right"] := defIn_mk X G a_is_less l_is_less c_is_less k_is_less fun _ _ _ _ _ _ us hl => match us, hl with | [_, _], _ => rfl
  have d_is_equal : DefIn K mg "is_equal" s_is_equal ["left", "right"] := defIn_mk X G a_is_equal l_is_equal c_is_equal k_is_equal fun _ _ _ _ _ _ us hl => match us, hl with | [_, _], _ => rfl
  have d_bits_of_both : DefIn K mg "bits_of_both" s_bits_of_both ["left", "right"] := defIn_mk X G a_bits_of_both l_bits_of_both c_bits_of_both k_bits_of_both fun _ _ _ _ _ _ us hl => match us, hl with | [_, _], _ => rfl
  have d_bits_of_either : DefIn K mg "bits_of_either" s_bits_of_either ["left", "right"] := defIn_mk X G a_bits_of_either l_bits_of_either c_bits_of_either k_bits_of_either fun _ _ _ _ _ _ us hl => match us, hl with | [_, _], _ => rfl
  have d_bits_of_one : DefIn K mg "bits_of_one" s_bits_of_one ["left", "right"] := defIn_mk X G a_bits_of_one l_bits_of_one c_bits_of_one k_bits_of_one fun _ _ _ _ _ _ us hl => match us, hl with | [_, _], _ => rfl
  have d_chained : DefIn K mg "chained" s_chained ["run", "number"] := defIn_mk X G a_chained l_chained c_chained k_chained fun _ _ _ _ _ _ us hl => match us, hl with | [_, _], _ => rfl
  have d_capped : DefIn K mg "capped" s_capped ["run", "number"] := defIn_mk X G a_capped l_capped c_capped k_capped fun _ _ _ _ _ _ us hl => match us, hl with | [_, _], _ => rfl
  have d_done : DefIn K mg "done" s_done ["sign", "left", "right"] := defIn_mk X G a_done l_done c_done k_done fun _ _ _ _ _ _ us hl => match us, hl with | [_, _, _], _ => rfl
  have d_free : DefIn K mg "free" s_free ["fold"] := defIn_mk X G a_free l_free c_free k_free fun _ _ _ _ _ _ us hl => match us, hl with | [_], _ => rfl
  have d_joined : DefIn K mg "joined" s_joined ["fold", "run", "number"] := defIn_mk X G a_joined l_joined c_joined k_joined fun _ _ _ _ _ _ us hl => match us, hl with | [_, _, _], _ => rfl
  have d_start_of : DefIn K mg "start_of" s_start_of ["lengths", "row"] := defIn_mk X G a_start_of l_start_of c_start_of k_start_of fun _ _ _ _ _ _ us hl => match us, hl with | [_, _], _ => rfl
  have d_lies_in : DefIn K mg "lies_in" s_lies_in ["spot", "row", "place"] := defIn_mk X G a_lies_in l_lies_in c_lies_in k_lies_in fun _ _ _ _ _ _ us hl => match us, hl with | [_, _, _], _ => rfl
  have d_cell_at : DefIn K mg "cell_at" s_cell_at ["spot", "row", "place"] := defIn_mk X G a_cell_at l_cell_at c_cell_at k_cell_at fun _ _ _ _ _ _ us hl => match us, hl with | [_, _, _], _ => rfl
  have d_count_of : DefIn K mg "count_of" s_count_of ["steps"] := defIn_mk X G a_count_of l_count_of c_count_of k_count_of fun _ _ _ _ _ _ us hl => match us, hl with | [_], _ => rfl
  have d_is_passed_over : DefIn K mg "is_passed_over" s_is_passed_over ["spot", "step"] := defIn_mk X G a_is_passed_over l_is_passed_over c_is_passed_over k_is_passed_over fun _ _ _ _ _ _ us hl => match us, hl with | [_, _], _ => rfl
  have d_number_to_lay : DefIn K mg "number_to_lay" s_number_to_lay ["spot", "step", "run"] := defIn_mk X G a_number_to_lay l_number_to_lay c_number_to_lay k_number_to_lay fun _ _ _ _ _ _ us hl => match us, hl with | [_, _, _], _ => rfl
  have d_place_put : DefIn K mg "place_put" s_place_put ["spot", "step"] := defIn_mk X G a_place_put l_place_put c_place_put k_place_put fun _ _ _ _ _ _ us hl => match us, hl with | [_, _], _ => rfl
  have d_place_to_lay : DefIn K mg "place_to_lay" s_place_to_lay ["spot", "step"] := defIn_mk X G a_place_to_lay l_place_to_lay c_place_to_lay k_place_to_lay fun _ _ _ _ _ _ us hl => match us, hl with | [_, _], _ => rfl
  have d_element_played : DefIn K mg "element_played" s_element_played ["spot", "step", "run"] := defIn_mk X G a_element_played l_element_played c_element_played k_element_played fun _ _ _ _ _ _ us hl => match us, hl with | [_, _, _], _ => rfl
  have d_elements_played : DefIn K mg "elements_played" s_elements_played ["program", "cells", "step", "number"] := defIn_mk X G a_elements_played l_elements_played c_elements_played k_elements_played fun _ _ _ _ _ _ us hl => match us, hl with | [_, _, _, _], _ => rfl
  have d_till_played : DefIn K mg "till_played" s_till_played ["program", "cells", "till", "number"] := defIn_mk X G a_till_played l_till_played c_till_played k_till_played fun _ _ _ _ _ _ us hl => match us, hl with | [_, _, _, _], _ => rfl
  have d_steps_played : DefIn K mg "steps_played" s_steps_played ["program", "cells", "steps", "first"] := defIn_mk X G a_steps_played l_steps_played c_steps_played k_steps_played fun _ _ _ _ _ _ us hl => match us, hl with | [_, _, _, _], _ => rfl
  have d_played : DefIn K mg "played" s_played ["program", "cells"] := defIn_mk X G a_played l_played c_played k_played fun _ _ _ _ _ _ us hl => match us, hl with | [_, _], _ => rfl
  have d_l_whole : DefIn K mg "_law_whole" s_l_whole ["_law_found"] := defIn_mk X G a_l_whole l_l_whole c_l_whole k_l_whole fun _ _ _ _ _ _ us hl => match us, hl with | [_], _ => rfl
  have d_l_kept_by : DefIn K mg "_law_kept_by" s_l_kept_by ["_law_cell"] := defIn_mk X G a_l_kept_by l_l_kept_by c_l_kept_by k_l_kept_by fun _ _ _ _ _ _ us hl => match us, hl with | [_], _ => rfl
  have d_l_mix : DefIn K mg "_law_mix" s_l_mix ["_law_cell", "_law_factor", "_law_prime"] := defIn_mk X G a_l_mix l_l_mix c_l_mix k_l_mix fun _ _ _ _ _ _ us hl => match us, hl with | [_, _, _], _ => rfl
  have d_l_asked : DefIn K mg "_law_asked" s_l_asked ["_law_form", "_law_spot"] := defIn_mk X G a_l_asked l_l_asked c_l_asked k_l_asked fun _ _ _ _ _ _ us hl => match us, hl with | [_, _], _ => rfl
  have d_l_functions : DefIn K mg "_law_functions" s_l_functions [] := defIn_mk X G a_l_functions l_l_functions c_l_functions k_l_functions fun _ _ _ _ _ _ us hl => match us, hl with | [], _ => rfl
  have d_l_leaf_by : DefIn K mg "_law_leaf_by" s_l_leaf_by ["_law_cell", "_law_rows", "_law_far", "_law_lengths"] := defIn_mk X G a_l_leaf_by l_l_leaf_by c_l_leaf_by k_l_leaf_by fun _ _ _ _ _ _ us hl => match us, hl with | [_, _, _, _], _ => rfl
  have d_l_value_by : DefIn K mg "_law_value_by" s_l_value_by ["_law_cell", "_law_rows", "_law_far", "_law_lengths"] := defIn_mk X G a_l_value_by l_l_value_by c_l_value_by k_l_value_by fun _ _ _ _ _ _ us hl => match us, hl with | [_, _, _, _], _ => rfl
  have d_l_lengths_by : DefIn K mg "_law_lengths_by" s_l_lengths_by ["_law_script", "_law_wide"] := defIn_mk X G a_l_lengths_by l_l_lengths_by c_l_lengths_by k_l_lengths_by fun _ _ _ _ _ _ us hl => match us, hl with | [_, _], _ => rfl
  have d_l_cells_by : DefIn K mg "_law_cells_by" s_l_cells_by ["_law_script", "_law_lengths"] := defIn_mk X G a_l_cells_by l_l_cells_by c_l_cells_by k_l_cells_by fun _ _ _ _ _ _ us hl => match us, hl with | [_, _], _ => rfl
  have d_l_element : DefIn K mg "_law_element" s_l_element ["_law_step", "_law_spot"] := defIn_mk X G a_l_element l_l_element c_l_element k_l_element fun _ _ _ _ _ _ us hl => match us, hl with | [_, _], _ => rfl
  have d_l_told : DefIn K mg "_law_told" s_l_told ["_law_found", "_law_due_here"] := defIn_mk X G a_l_told l_l_told c_l_told k_l_told fun _ _ _ _ _ _ us hl => match us, hl with | [_, _], _ => rfl
  have d_l_joined : DefIn K mg "_law_joined" s_l_joined ["_law_fold", "_law_run", "_law_number"] := defIn_mk X G a_l_joined l_l_joined c_l_joined k_l_joined fun _ _ _ _ _ _ us hl => match us, hl with | [_, _, _], _ => rfl
  have d_l_fold_by : DefIn K mg "_law_fold_by" s_l_fold_by ["_law_cell"] := defIn_mk X G a_l_fold_by l_l_fold_by c_l_fold_by k_l_fold_by fun _ _ _ _ _ _ us hl => match us, hl with | [_], _ => rfl
  have d_l_target_by : DefIn K mg "_law_target_by" s_l_target_by ["_law_cell", "_law_lengths"] := defIn_mk X G a_l_target_by l_l_target_by c_l_target_by k_l_target_by fun _ _ _ _ _ _ us hl => match us, hl with | [_, _], _ => rfl
  have d_l_many_by : DefIn K mg "_law_many_by" s_l_many_by ["_law_cell", "_law_lengths"] := defIn_mk X G a_l_many_by l_l_many_by c_l_many_by k_l_many_by fun _ _ _ _ _ _ us hl => match us, hl with | [_, _], _ => rfl
  have d_l_step_by : DefIn K mg "_law_step_by" s_l_step_by ["_law_cell", "_law_lengths"] := defIn_mk X G a_l_step_by l_l_step_by c_l_step_by k_l_step_by fun _ _ _ _ _ _ us hl => match us, hl with | [_, _], _ => rfl
  have d_l_due : DefIn K mg "_law_due" s_l_due ["_law_step", "_law_lengths", "_law_functions_here", "_law_cells", "_law_many"] := defIn_mk X G a_l_due l_l_due c_l_due k_l_due fun _ _ _ _ _ _ us hl => match us, hl with | [_, _, _, _, _], _ => rfl
  have d_Spot_init : InitIn K C_Spot "Spot.__init__" s_Spot_init ["self", "lengths", "functions", "cells", "place", "own"] := ⟨f_Spot_init, _, ⟨mk_C_Spot, at_Spot_init, fn_Spot_init, kC_C_Spot⟩, fun_mk l_Spot_init c_Spot_init k_Spot_init, (fun_mk l_Spot_init c_Spot_init k_Spot_init).binds fun _ _ _ _ _ _ us hl => match us, hl with | [_, _, _, _, _, _], _ => rfl⟩
  have d_Number_init : InitIn K C_Number "Number.__init__" s_Number_init ["self", "number"] := ⟨f_Number_init, _, ⟨mk_C_Number, at_Number_init, fn_Number_init, kC_C_Number⟩, fun_mk l_Number_init c_Number_init k_Number_init, (fun_mk l_Number_init c_Number_init k_Number_init).binds fun _ _ _ _ _ _ us hl => match us, hl with | [_, _], _ => rfl⟩
  have d_Number_worth : MethIn K C_Number "worth" "Number.worth" s_Number_worth ["self", "spot"] := ⟨f_Number_worth, _, ⟨at_Number_worth, fn_Number_worth, k_Number_worth⟩, fun_mk l_Number_worth c_Number_worth k_Number_worth, (fun_mk l_Number_worth c_Number_worth k_Number_worth).binds fun _ _ _ _ _ _ us hl => match us, hl with | [_, _], _ => rfl⟩
  have d_Here_worth : MethIn K C_Here "worth" "Here.worth" s_Here_worth ["self", "spot"] := ⟨f_Here_worth, _, ⟨at_Here_worth, fn_Here_worth, k_Here_worth⟩, fun_mk l_Here_worth c_Here_worth k_Here_worth, (fun_mk l_Here_worth c_Here_worth k_Here_worth).binds fun _ _ _ _ _ _ us hl => match us, hl with | [_, _], _ => rfl⟩
  have d_Cell_init : InitIn K C_Cell "Cell.__init__" s_Cell_init ["self", "row"] := ⟨f_Cell_init, _, ⟨mk_C_Cell, at_Cell_init, fn_Cell_init, kC_C_Cell⟩, fun_mk l_Cell_init c_Cell_init k_Cell_init, (fun_mk l_Cell_init c_Cell_init k_Cell_init).binds fun _ _ _ _ _ _ us hl => match us, hl with | [_, _], _ => rfl⟩
  have d_Cell_worth : MethIn K C_Cell "worth" "Cell.worth" s_Cell_worth ["self", "spot"] := ⟨f_Cell_worth, _, ⟨at_Cell_worth, fn_Cell_worth, k_Cell_worth⟩, fun_mk l_Cell_worth c_Cell_worth k_Cell_worth, (fun_mk l_Cell_worth c_Cell_worth k_Cell_worth).binds fun _ _ _ _ _ _ us hl => match us, hl with | [_, _], _ => rfl⟩
  have d_Shifted_init : InitIn K C_Shifted "Shifted.__init__" s_Shifted_init ["self", "row", "by", "other"] := ⟨f_Shifted_init, _, ⟨mk_C_Shifted, at_Shifted_init, fn_Shifted_init, kC_C_Shifted⟩, fun_mk l_Shifted_init c_Shifted_init k_Shifted_init, (fun_mk l_Shifted_init c_Shifted_init k_Shifted_init).binds fun _ _ _ _ _ _ us hl => match us, hl with | [_, _, _, _], _ => rfl⟩
  have d_Shifted_worth : MethIn K C_Shifted "worth" "Shifted.worth" s_Shifted_worth ["self", "spot"] := ⟨f_Shifted_worth, _, ⟨at_Shifted_worth, fn_Shifted_worth, k_Shifted_worth⟩, fun_mk l_Shifted_worth c_Shifted_worth k_Shifted_worth, (fun_mk l_Shifted_worth c_Shifted_worth k_Shifted_worth).binds fun _ _ _ _ _ _ us hl => match us, hl with | [_, _], _ => rfl⟩
  have d_Local_init : InitIn K C_Local "Local.__init__" s_Local_init ["self", "at"] := ⟨f_Local_init, _, ⟨mk_C_Local, at_Local_init, fn_Local_init, kC_C_Local⟩, fun_mk l_Local_init c_Local_init k_Local_init, (fun_mk l_Local_init c_Local_init k_Local_init).binds fun _ _ _ _ _ _ us hl => match us, hl with | [_, _], _ => rfl⟩
  have d_Local_worth : MethIn K C_Local "worth" "Local.worth" s_Local_worth ["self", "spot"] := ⟨f_Local_worth, _, ⟨at_Local_worth, fn_Local_worth, k_Local_worth⟩, fun_mk l_Local_worth c_Local_worth k_Local_worth, (fun_mk l_Local_worth c_Local_worth k_Local_worth).binds fun _ _ _ _ _ _ us hl => match us, hl with | [_, _], _ => rfl⟩
  have d_At_init : InitIn K C_At "At.__init__" s_At_init ["self", "row", "place"] := ⟨f_At_init, _, ⟨mk_C_At, at_At_init, fn_At_init, kC_C_At⟩, fun_mk l_At_init c_At_init k_At_init, (fun_mk l_At_init c_At_init k_At_init).binds fun _ _ _ _ _ _ us hl => match us, hl with | [_, _, _], _ => rfl⟩
  have d_At_worth : MethIn K C_At "worth" "At.worth" s_At_worth ["self", "spot"] := ⟨f_At_worth, _, ⟨at_At_worth, fn_At_worth, k_At_worth⟩, fun_mk l_At_worth c_At_worth k_At_worth, (fun_mk l_At_worth c_At_worth k_At_worth).binds fun _ _ _ _ _ _ us hl => match us, hl with | [_, _], _ => rfl⟩
  have d_Pair_init : InitIn K C_Pair "Pair.__init__" s_Pair_init ["self", "sign", "left", "right"] := ⟨f_Pair_init, _, ⟨mk_C_Pair, at_Pair_init, fn_Pair_init, kC_C_Pair⟩, fun_mk l_Pair_init c_Pair_init k_Pair_init, (fun_mk l_Pair_init c_Pair_init k_Pair_init).binds fun _ _ _ _ _ _ us hl => match us, hl with | [_, _, _, _], _ => rfl⟩
  have d_Pair_worth : MethIn K C_Pair "worth" "Pair.worth" s_Pair_worth ["self", "spot"] := ⟨f_Pair_worth, _, ⟨at_Pair_worth, fn_Pair_worth, k_Pair_worth⟩, fun_mk l_Pair_worth c_Pair_worth k_Pair_worth, (fun_mk l_Pair_worth c_Pair_worth k_Pair_worth).binds fun _ _ _ _ _ _ us hl => match us, hl with | [_, _], _ => rfl⟩
  have d_Choice_init : InitIn K C_Choice "Choice.__init__" s_Choice_init ["self", "test", "left", "right"] := ⟨f_Choice_init, _, ⟨mk_C_Choice, at_Choice_init, fn_Choice_init, kC_C_Choice⟩, fun_mk l_Choice_init c_Choice_init k_Choice_init, (fun_mk l_Choice_init c_Choice_init k_Choice_init).binds fun _ _ _ _ _ _ us hl => match us, hl with | [_, _, _, _], _ => rfl⟩
  have d_Choice_worth : MethIn K C_Choice "worth" "Choice.worth" s_Choice_worth ["self", "spot"] := ⟨f_Choice_worth, _, ⟨at_Choice_worth, fn_Choice_worth, k_Choice_worth⟩, fun_mk l_Choice_worth c_Choice_worth k_Choice_worth, (fun_mk l_Choice_worth c_Choice_worth k_Choice_worth).binds fun _ _ _ _ _ _ us hl => match us, hl with | [_, _], _ => rfl⟩
  have d_Call_init : InitIn K C_Call "Call.__init__" s_Call_init ["self", "at", "handed"] := ⟨f_Call_init, _, ⟨mk_C_Call, at_Call_init, fn_Call_init, kC_C_Call⟩, fun_mk l_Call_init c_Call_init k_Call_init, (fun_mk l_Call_init c_Call_init k_Call_init).binds fun _ _ _ _ _ _ us hl => match us, hl with | [_, _, _], _ => rfl⟩
  have d_Call_worth : MethIn K C_Call "worth" "Call.worth" s_Call_worth ["self", "spot"] := ⟨f_Call_worth, _, ⟨at_Call_worth, fn_Call_worth, k_Call_worth⟩, fun_mk l_Call_worth c_Call_worth k_Call_worth, (fun_mk l_Call_worth c_Call_worth k_Call_worth).binds fun _ _ _ _ _ _ us hl => match us, hl with | [_, _], _ => rfl⟩
  have d_Fold_init : InitN K C_Fold "Fold.__init__" s_Fold_init ["self", "target", "fold", "value", "many", "test"] := ⟨f_Fold_init, _, ⟨mk_C_Fold, at_Fold_init, fn_Fold_init, kC_C_Fold⟩, (funD_mk l_Fold_init c_Fold_init k_Fold_init lT_Fold_init), (funD_mk l_Fold_init c_Fold_init k_Fold_init lT_Fold_init).binds (fun _ _ _ _ _ _ _ us hl => match us, hl with | [_, _, _, _, _, _], _ => ⟨_, rfl, rfl⟩), (funD_mk l_Fold_init c_Fold_init k_Fold_init lT_Fold_init).binds (fun _ _ _ _ _ _ _ us hl => (match us, (by simpa using hl : us.length = 5) with | [_, _, _, _, _], _ => ⟨_, rfl, rfl⟩))⟩
  have d_Fold_many_of : MethIn K C_Fold "many_of" "Fold.many_of" s_Fold_many_of ["self", "lengths"] := ⟨f_Fold_many_of, _, ⟨at_Fold_many_of, fn_Fold_many_of, k_Fold_many_of⟩, fun_mk l_Fold_many_of c_Fold_many_of k_Fold_many_of, (fun_mk l_Fold_many_of c_Fold_many_of k_Fold_many_of).binds fun _ _ _ _ _ _ us hl => match us, hl with | [_, _], _ => rfl⟩
  have d_Running_init : InitN K C_Running "Running.__init__" s_Running_init ["self", "target", "fold", "value", "test"] := ⟨f_Running_init, _, ⟨mk_C_Running, at_Running_init, fn_Running_init, kC_C_Running⟩, (funD_mk l_Running_init c_Running_init k_Running_init lT_Running_init), (funD_mk l_Running_init c_Running_init k_Running_init lT_Running_init).binds (fun _ _ _ _ _ _ _ us hl => match us, hl with | [_, _, _, _, _], _ => ⟨_, rfl, rfl⟩), (funD_mk l_Running_init c_Running_init k_Running_init lT_Running_init).binds (fun _ _ _ _ _ _ _ us hl => (match us, (by simpa using hl : us.length = 4) with | [_, _, _, _], _ => ⟨_, rfl, rfl⟩))⟩
  have d_Running_many_of : MethIn K C_Running "many_of" "Running.many_of" s_Running_many_of ["self", "lengths"] := ⟨f_Running_many_of, _, ⟨at_Running_many_of, fn_Running_many_of, k_Running_many_of⟩, fun_mk l_Running_many_of c_Running_many_of k_Running_many_of, (fun_mk l_Running_many_of c_Running_many_of k_Running_many_of).binds fun _ _ _ _ _ _ us hl => match us, hl with | [_, _], _ => rfl⟩
  have d_Program_init : InitIn K C_Program "Program.__init__" s_Program_init ["self", "lengths", "functions", "steps"] := ⟨f_Program_init, _, ⟨mk_C_Program, at_Program_init, fn_Program_init, kC_C_Program⟩, fun_mk l_Program_init c_Program_init k_Program_init, (fun_mk l_Program_init c_Program_init k_Program_init).binds fun _ _ _ _ _ _ us hl => match us, hl with | [_, _, _, _], _ => rfl⟩
  have cl_Spot : Cls K C_Spot := ⟨c1_C_Spot, c2_C_Spot, c3_C_Spot, c4_C_Spot⟩
  have cl_Number : Cls K C_Number := ⟨c1_C_Number, c2_C_Number, c3_C_Number, c4_C_Number⟩
  have cl_Here : Cls K C_Here := ⟨c1_C_Here, c2_C_Here, c3_C_Here, c4_C_Here⟩
  have cl_Cell : Cls K C_Cell := ⟨c1_C_Cell, c2_C_Cell, c3_C_Cell, c4_C_Cell⟩
  have cl_Shifted : Cls K C_Shifted := ⟨c1_C_Shifted, c2_C_Shifted, c3_C_Shifted, c4_C_Shifted⟩
  have cl_Local : Cls K C_Local := ⟨c1_C_Local, c2_C_Local, c3_C_Local, c4_C_Local⟩
  have cl_At : Cls K C_At := ⟨c1_C_At, c2_C_At, c3_C_At, c4_C_At⟩
  have cl_Pair : Cls K C_Pair := ⟨c1_C_Pair, c2_C_Pair, c3_C_Pair, c4_C_Pair⟩
  have cl_Choice : Cls K C_Choice := ⟨c1_C_Choice, c2_C_Choice, c3_C_Choice, c4_C_Choice⟩
  have cl_Call : Cls K C_Call := ⟨c1_C_Call, c2_C_Call, c3_C_Call, c4_C_Call⟩
  have cl_Fold : Cls K C_Fold := ⟨c1_C_Fold, c2_C_Fold, c3_C_Fold, c4_C_Fold⟩
  have cl_Running : Cls K C_Running := ⟨c1_C_Running, c2_C_Running, c3_C_Running, c4_C_Running⟩
  have cl_Program : Cls K C_Program := ⟨c1_C_Program, c2_C_Program, c3_C_Program, c4_C_Program⟩
  have mm := fun {x : Str} {v : Value} (q : PySem.W.nsIn K mainGlobals x = some (some v)) => PySem.W.mg_of X G q
  have mz := fun {x : Str} (q : PySem.W.nsIn K mainGlobals x = some none) => PySem.W.mg_none_of X G q
  refine ⟨PySem.W.fnOf "law" "law" (defArgs s_law) (defBody s_law) (defScope s_law) .none kV_law dc_law pm_law an_law cd_law ct_law, fun s v => .of_eq rfl, fun base kb nb => ?_⟩
  have N : Ints K mg := ⟨mz z_isinstance, mz z_int, mz z_bool, k5, k6⟩
  have W := ok_whole (P := l.prog) (w := w) (base := base) d_l_whole N
  have SO' := ok_start (P := l.prog) (w := w) (base := base) d_start_of (mz z_sum)
  have sC : SpotC K C_Spot := ⟨cl_Spot, n_C_Spot_lengths, n_C_Spot_functions, n_C_Spot_cells, n_C_Spot_place, n_C_Spot_own⟩
  have T : TopDict w K S := ⟨es, nS, lS, kS⟩
  have Sg : Signs K mg S := ⟨⟨_, g0, mm a_plus⟩, ⟨_, g1, mm a_minus⟩, ⟨_, g2, mm a_times⟩, ⟨_, g3, mm a_quotient⟩, ⟨_, g4, mm a_remainder⟩, ⟨_, g5, mm a_lesser⟩, ⟨_, g6, mm a_greater⟩, ⟨_, g7, mm a_is_less⟩, ⟨_, g8, mm a_is_equal⟩, ⟨_, g9, mm a_bits_of_both⟩, ⟨_, g10, mm a_bits_of_either⟩, ⟨_, g11, mm a_bits_of_one⟩⟩
  have GK := ok_kept (P := l.prog) (w := w) (base := base) d_kept (mm aH)
  have GN := ok_refuse (P := l.prog) (w := w) (base := base) d_refuse_nought (own_in kb (mm b_CN) x_CN) PySem.F.excBase_ValueError
  have Fs : Fns l.prog w K mg base CN := ⟨ok_plus d_plus GK, ok_minus d_minus GK, ok_times d_times GK, ok_quotient d_quotient GK GN, ok_remainder d_remainder GN, ok_lesser d_lesser (mz z_min), ok_greater d_greater (mz z_max), ok_is_less d_is_less, ok_is_equal d_is_equal, ok_both d_bits_of_both, ok_either d_bits_of_either, ok_one d_bits_of_one⟩
  have DN := ok_done d_done (mm aS) T Sg Fs
  have Sf : Folds w K mg SF SO := ⟨⟨_, h0, mm a_plus⟩, ⟨_, h1, mm a_times⟩, ⟨_, h2, mm a_lesser⟩, ⟨_, h3, mm a_greater⟩, ⟨_, h4, mm a_bits_of_both⟩, ⟨_, h5, mm a_bits_of_either⟩, ⟨_, h6, mm a_bits_of_one⟩, n1, n2, lo, ⟨esF, nF, lF, kF⟩, mm aF, ⟨_, h7, mm a_chained⟩, ⟨_, h8, mm a_capped⟩, ⟨esO, nO, lO, kO⟩, mm aO⟩
  have Ff : FnsF l.prog w K mg base := ⟨ok_plus d_plus GK, ok_times d_times GK, ok_lesser d_lesser (mz z_min), ok_greater d_greater (mz z_max), ok_both d_bits_of_both, ok_either d_bits_of_either, ok_one d_bits_of_one, ok_chained d_chained GK, ok_capped d_capped (mm aC) (mz z_min) (mz z_max)⟩
  have JO := ok_joined d_joined Sf (ok_free d_free Sf) Ff
  let c : F2.Cs := ⟨⟨C_Number, C_Here, C_Cell, C_Shifted, C_Local, C_At, C_Pair, C_Choice, C_Spot⟩, C_Call⟩
  have LI := ok_lies (P := l.prog) (w := w) (base := base) (c := c.toCs) d_lies_in sC
  have CL := ok_cell (c := c.toCs) d_cell_at sC SO'
  have IN := okI_Number (P := l.prog) (w := w) (mg := mg) (base := base) d_Number_init cl_Number n_C_Number_number
  have IC := okI_Cell (P := l.prog) (w := w) (mg := mg) (base := base) d_Cell_init cl_Cell n_C_Cell_row
  have IH := okI_Shifted (P := l.prog) (w := w) (mg := mg) (base := base) d_Shifted_init cl_Shifted n_C_Shifted_row n_C_Shifted_by n_C_Shifted_other
  have IL := okI_Local (P := l.prog) (w := w) (mg := mg) (base := base) d_Local_init cl_Local n_C_Local_at
  have IA := okI_At (P := l.prog) (w := w) (mg := mg) (base := base) d_At_init cl_At n_C_At_row n_C_At_place
  have IP := okI_Pair (P := l.prog) (w := w) (mg := mg) (base := base) d_Pair_init cl_Pair n_C_Pair_sign n_C_Pair_left n_C_Pair_right
  have IO := okI_Choice (P := l.prog) (w := w) (mg := mg) (base := base) d_Choice_init cl_Choice n_C_Choice_test n_C_Choice_left n_C_Choice_right
  have IS := okI_Spot (P := l.prog) (w := w) (mg := mg) (base := base) d_Spot_init cl_Spot n_C_Spot_lengths n_C_Spot_functions n_C_Spot_cells n_C_Spot_place n_C_Spot_own
  have ICa := okI_Call (P := l.prog) (w := w) (mg := mg) (base := base) d_Call_init (mz z_list) cl_Call n_C_Call_at n_C_Call_handed
  have pc : ProgC K C_Program := ⟨cl_Program, n_C_Program_lengths, n_C_Program_functions, n_C_Program_steps⟩
  have IPr := okI_Prog (P := l.prog) (w := w) (mg := mg) (base := base) d_Program_init (mz z_list) pc
  have MH : MkN K C_Here := ⟨mk_C_Here, in_C_Here, kC_C_Here⟩
  have Wk : Works2 l.prog w K mg base c CN OU FS :=
    ⟨fun k n => w2_num (c := c) d_Number_worth cl_Number n_C_Number_number, fun k => w2_here (c := c) d_Here_worth cl_Here sC, fun k r => w2_cell (c := c) d_Cell_worth cl_Cell n_C_Cell_row sC CL, fun k r b o => w2_shi (c := c) d_Shifted_worth cl_Shifted n_C_Shifted_row n_C_Shifted_by n_C_Shifted_other sC LI CL, fun k a => w2_loc (c := c) d_Local_worth cl_Local n_C_Local_at sC,
      fun k r p rm h q => w2_at (c := c) d_At_worth cl_At n_C_At_row n_C_At_place LI CL (own_in kb (mm b_OU) x_OU) PySem.F.excBase_ValueError h q, fun k sg a b rm h p q => w2_pair (c := c) d_Pair_worth cl_Pair n_C_Pair_sign n_C_Pair_left n_C_Pair_right fs_bodies DN h p q, fun k t a b rm p q r => w2_cho (c := c) d_Choice_worth cl_Choice n_C_Choice_test n_C_Choice_left n_C_Choice_right p q r,
      fun k a gs rm h hh hb => w2_call (c := c) d_Call_worth cl_Call n_C_Call_at n_C_Call_handed sC fs_bodies IS (mm a_C_Spot) h fs_hands hh hb⟩
  have X : ExcX K mg CN OU := ⟨⟨mm b_CN, mm b_OU, m_CN_CN, m_OU_CN, m_OU_OU⟩, kno, ⟨e1_CN, e7_CN, e8_CN, e2_CN, e3_CN, e4_CN, e5_CN, e6_CN⟩⟩
  have Ts : TysK K mg := ⟨mz z_tuple, mz z_list, mz z_str, kt_tuple, kt_list, kt_str⟩
  have KB := ok_kept_by (P := l.prog) (w := w) (base := base) d_l_kept_by
  have MX := ok_mix (P := l.prog) (w := w) (base := base) d_l_mix
  let q : ST.Scs := ⟨0, PU, C_Fold, C_Running, TI, SX⟩
  have G : StepsK K mg q (fun kd => isF kd = true ∨ isR kd = true) := ⟨mm a_C_Fold, mm a_C_Running, mm b_PU, mm b_TI, fun kd h => by
    cases kd with
    | fold ff m => exact ⟨cl_Fold, n_C_Fold_target, n_C_Fold_value, n_C_Fold_test, i1_Fold, i2_Fold, i3_Fold, i4_Fold, kl_Fold_Fold, kl_Fold_Running, kl_Fold_Put, kl_Fold_Till, kl_Fold_Step, (fun z => by cases z), fun _ => n_C_Fold_fold, (fun z => by cases z)⟩
    | run ff => exact ⟨cl_Running, n_C_Running_target, n_C_Running_value, n_C_Running_test, i1_Running, i2_Running, i3_Running, i4_Running, kl_Running_Fold, kl_Running_Running, kl_Running_Put, kl_Running_Till, kl_Running_Step, (fun z => by cases z), (fun z => by cases z), fun _ => n_C_Running_fold⟩
    | let' => rcases h with h | h <;> cases h
    | put _ _ => rcases h with h | h <;> cases h⟩
  have MO : ManyK l.prog w K mg base q (fun kd => isF kd = true ∨ isR kd = true) := fun kd h => by
    cases kd with
    | fold ff m => exact many_Fold (q := q) d_Fold_many_of cl_Fold n_C_Fold_many ff m
    | run ff => exact many_Running (q := q) d_Running_many_of cl_Running n_C_Running_target ff
    | let' => rcases h with h | h <;> cases h
    | put _ _ => rcases h with h | h <;> cases h
  have IPo := (ok_pass (P := l.prog) (w := w) (base := base) (c := c) (CN := CN) (OU := OU) (rm := 7) d_is_passed_over G).mono (k := 7 + 2) (by decide)
  have NL := (ok_numL (P := l.prog) (w := w) (base := base) (c := c) (CN := CN) (OU := OU) (rm := 7) d_number_to_lay (mz z_isinstance) (by decide) G JO CL).mono (k := 7 + 2) (by decide)
  have PP := ok_placeP (P := l.prog) (w := w) (base := base) (c := c) (CN := CN) (OU := OU) (rm := 7) d_place_put (by decide) G LI (own_in kb (mm b_OU) x_OU) PySem.F.excBase_ValueError
  have PL := ok_placeL (P := l.prog) (w := w) (base := base) (c := c) d_place_to_lay (mz z_isinstance) sC G PP
  have EL := ok_elem (c := c) d_element_played sC G (by decide) SO' IPo NL PL
  have EP := ok_els (c := c) (PR := C_Program) d_elements_played (mz z_range) sC pc X.toExcK G (mm a_C_Spot) IS MO EL
  have CO := ok_count (P := l.prog) (w := w) (base := base) (c := c) d_count_of (mz z_isinstance) G 0 (fun z => absurd z (by decide))
  have SP := ok_steps_at (c := c) (rm := 7) 0 d_steps_played (mz z_isinstance) G (fun z => absurd z (by decide)) CO EP (ok_no (qn := "") d_till_played sc_till_played) (by decide)
  have PD := ok_played (c := c) (rm := 7) (e := 0) d_played (mz z_list) pc SP
  have AS := ok_asked (P := l.prog) (w := w) (base := base) (c := c) (rm := 7) d_l_asked X N
  have EL2 := ok_elL (c := c) d_l_element G AS
  have LF := ok_leafBy (c := c) d_l_leaf_by (mz z_len) Wk MH (mm a_C_Here) (mm a_C_Number) (mm a_C_Cell) (mm a_C_Shifted) (mm a_C_At) (mm a_C_Pair) IN IC IH IA IP KB
  have FU := ok_funs (c := c) d_l_functions MH (mm a_C_Here) (mm a_C_Number) (mm a_C_Local) (mm a_C_Pair) (mm a_C_Choice) IN IL IP IO
  have VB := ok_valBy (c := c) d_l_value_by Wk (mm a_C_Pair) (mm a_C_Choice) (mm a_C_Call) IP IO ICa MX LF
  have LN := ok_lens (P := l.prog) (w := w) (base := base) d_l_lengths_by (mz z_len)
  have CE := ok_cells (P := l.prog) (w := w) (base := base) d_l_cells_by (mz z_len) (mz z_range) (mz z_sum) KB MX
  have IF := okN_Fold (P := l.prog) (w := w) (mg := mg) (base := base) d_Fold_init cl_Fold n_C_Fold_target n_C_Fold_fold n_C_Fold_value n_C_Fold_many n_C_Fold_test
  have IR := okN_Running (P := l.prog) (w := w) (mg := mg) (base := base) d_Running_init cl_Running n_C_Running_target n_C_Running_fold n_C_Running_value n_C_Running_test
  have FB := ok_foldBy d_l_fold_by MX
  have TB := ok_tgtBy d_l_target_by (mz z_len) (mz z_range) MX
  have MB := ok_manyBy d_l_many_by (mz z_len) MX TB
  have LB := ok_stepBy (c := c) (q := q) d_l_step_by (mz z_len) (mz z_range) (mz z_list) (mm a_C_Fold) (mm a_C_Running) IF IR MX FB TB MB VB
  have LJ := ok_ljoined (P := l.prog) (w := w) (base := base) d_l_joined (mz z_min) (mz z_max)
  have DU := ok_dueR (c := c) d_l_due (mz z_list) (mz z_range) (mz z_sum) (mz z_isinstance) sC G (mm a_C_Spot) IS LJ EL2
  have TO := ok_told (P := l.prog) (w := w) (base := base) d_l_told (mz z_len) N Ts W
  exact ok_law (c := c) (fun_mk (st := s_law) l_law c_law k_law) (mz z_len) (mz z_list) (mz z_isinstance) (mz z_int) (mz z_max) G (mm b_SX) (fun cc lens => by unfold kdBy; split; exact .inl rfl; exact .inr rfl) pc (mm a_C_Program) IPr MO MX MB FB TB LN FU CE LB DU TO PD
theorem walk {l : PySem.W.OpenLaw} {q : Program} {loose : List Str} {XP : (Str → Option Value) → Heap → Prop} {YP : World → Heap → Prop} {d : DefRec} {K : Params → PySem.W.Frag} (hn : l.most = some 63) (hdf : d.params.defaults = [])
    (hY : ∀ (w : World) (h : Heap), YP w h → (K w.params).In h)
    (F : ∀ (w : World) (mg : Str → Option Value) (fa : Addr) (h : Heap), (K w.params).In h → h.Ns mainGlobals mg → mg d.name = some (.ref fa) →
      ∃ fd : FuncData, (∀ (s : Shared) (u : Value), BindsTo s fd ⟨[u], []⟩ [("_law_script", u)]) ∧ ∀ base : Heap, (K w.params).In base → base.Ns mainGlobals mg → FnOk l.prog w (K w.params) mg base CX0 14 fa fd ["_law_script"] (spLaw (K w.params))) :
    PySem.W.WalkO q loose XP YP l.row.toRowW d [] (fun f vs => PySem.call f vs) :=
  L2.walk_of (n := 63) (k := 14) (x := "_law_script") (CX := fun _ => CX0) (sp := fun w => spLaw (K w.params)) hn (by decide) hdf ⟨rfl, by decide, by decide⟩ hY F (fun _ _ a ns hl _ hS => ⟨a, ns, rfl, hS, hl, fun _ => rfl⟩) fun _ _ _ _ _ z => z
end K16

open PySem PySem.W PyProof.Rows
set_option maxRecDepth 100000 in
set_option maxHeartbeats 0 in
theorem PySem.Challenge.cw_rowbreadth_k16_fold_and_running_holds : PySem.Challenge.rw_rowbreadth_k16_fold_and_running.Holds := by
  w_on; o_law; k_head; (case hw => w_witness2)
  k_fill
  refine K16.walk (l := PySem.Challenge.rw_rowbreadth_k16_fold_and_running) rfl rfl (fun w h Y => PySem.W.kIn_of Y) ?F
  case F =>
    intro w mg fa h KX G hmg
    refine' K16.all_mk KX G hmg ?kf_a_kept ?kf_l_kept ?kf_c_kept ?kf_k_kept ?kf_a_plus ?kf_l_plus ?kf_c_plus ?kf_k_plus ?kf_a_minus ?kf_l_minus ?kf_c_minus ?kf_k_minus ?kf_a_times ?kf_l_times ?kf_c_times ?kf_k_times ?kf_a_refuse_nought ?kf_l_refuse_nought ?kf_c_refuse_nought ?kf_k_refuse_nought ?kf_a_quotient ?kf_l_quotient ?kf_c_quotient ?kf_k_quotient ?kf_a_remainder ?kf_l_remainder ?kf_c_remainder ?kf_k_remainder ?kf_a_lesser ?kf_l_lesser ?kf_c_lesser ?kf_k_lesser ?kf_a_greater ?kf_l_greater ?kf_c_greater ?kf_k_greater ?kf_a_is_less ?kf_l_is_less ?kf_c_is_less ?kf_k_is_less ?kf_a_is_equal ?kf_l_is_equal ?kf_c_is_equal ?kf_k_is_equal ?kf_a_bits_of_both ?kf_l_bits_of_both ?kf_c_bits_of_both ?kf_k_bits_of_both ?kf_a_bits_of_either ?kf_l_bits_of_either ?kf_c_bits_of_either ?kf_k_bits_of_either ?kf_a_bits_of_one ?kf_l_bits_of_one ?kf_c_bits_of_one ?kf_k_bits_of_one ?kf_a_chained ?kf_l_chained ?kf_c_chained ?kf_k_chained ?kf_a_capped ?kf_l_capped ?kf_c_capped ?kf_k_capped ?kf_a_done ?kf_l_done ?kf_c_done ?kf_k_done ?kf_a_free ?kf_l_free ?kf_c_free ?kf_k_free ?kf_a_joined ?kf_l_joined ?kf_c_joined ?kf_k_joined ?kf_a_start_of ?kf_l_start_of ?kf_c_start_of ?kf_k_start_of ?kf_a_lies_in ?kf_l_lies_in ?kf_c_lies_in ?kf_k_lies_in ?kf_a_cell_at ?kf_l_cell_at ?kf_c_cell_at ?kf_k_cell_at ?kf_a_count_of ?kf_l_count_of ?kf_c_count_of ?kf_k_count_of ?kf_a_is_passed_over ?kf_l_is_passed_over ?kf_c_is_passed_over ?kf_k_is_passed_over ?kf_a_number_to_lay ?kf_l_number_to_lay ?kf_c_number_to_lay ?kf_k_number_to_lay ?kf_a_place_put ?kf_l_place_put ?kf_c_place_put ?kf_k_place_put ?kf_a_place_to_lay ?kf_l_place_to_lay ?kf_c_place_to_lay ?kf_k_place_to_lay ?kf_a_element_played ?kf_l_element_played ?kf_c_element_played ?kf_k_element_played ?kf_a_elements_played ?kf_l_elements_played ?kf_c_elements_played ?kf_k_elements_played ?kf_a_till_played ?kf_l_till_played ?kf_c_till_played ?kf_k_till_played ?kf_a_steps_played ?kf_l_steps_played ?kf_c_steps_played ?kf_k_steps_played ?kf_a_played ?kf_l_played ?kf_c_played ?kf_k_played ?kf_a_l_whole ?kf_l_l_whole ?kf_c_l_whole ?kf_k_l_whole ?kf_a_l_kept_by ?kf_l_l_kept_by ?kf_c_l_kept_by ?kf_k_l_kept_by ?kf_a_l_mix ?kf_l_l_mix ?kf_c_l_mix ?kf_k_l_mix ?kf_a_l_asked ?kf_l_l_asked ?kf_c_l_asked ?kf_k_l_asked ?kf_a_l_functions ?kf_l_l_functions ?kf_c_l_functions ?kf_k_l_functions ?kf_a_l_leaf_by ?kf_l_l_leaf_by ?kf_c_l_leaf_by ?kf_k_l_leaf_by ?kf_a_l_value_by ?kf_l_l_value_by ?kf_c_l_value_by ?kf_k_l_value_by ?kf_a_l_lengths_by ?kf_l_l_lengths_by ?kf_c_l_lengths_by ?kf_k_l_lengths_by ?kf_a_l_cells_by ?kf_l_l_cells_by ?kf_c_l_cells_by ?kf_k_l_cells_by ?kf_a_l_element ?kf_l_l_element ?kf_c_l_element ?kf_k_l_element ?kf_a_l_told ?kf_l_l_told ?kf_c_l_told ?kf_k_l_told ?kf_a_l_joined ?kf_l_l_joined ?kf_c_l_joined ?kf_k_l_joined ?kf_a_l_fold_by ?kf_l_l_fold_by ?kf_c_l_fold_by ?kf_k_l_fold_by ?kf_a_l_target_by ?kf_l_l_target_by ?kf_c_l_target_by ?kf_k_l_target_by ?kf_a_l_many_by ?kf_l_l_many_by ?kf_c_l_many_by ?kf_k_l_many_by ?kf_a_l_step_by ?kf_l_l_step_by ?kf_c_l_step_by ?kf_k_l_step_by ?kf_a_l_due ?kf_l_l_due ?kf_c_l_due ?kf_k_l_due ?kf_a_law ?kf_l_law ?kf_c_law ?kf_k_law ?kf_a_C_Spot ?kf_c1_C_Spot ?kf_c2_C_Spot ?kf_c3_C_Spot ?kf_c4_C_Spot ?kf_n_C_Spot_lengths ?kf_n_C_Spot_functions ?kf_n_C_Spot_cells ?kf_n_C_Spot_place ?kf_n_C_Spot_own ?kf_mk_C_Spot ?kf_kC_C_Spot ?kf_at_Spot_init ?kf_fn_Spot_init ?kf_l_Spot_init ?kf_c_Spot_init ?kf_k_Spot_init ?kf_a_C_Number ?kf_c1_C_Number ?kf_c2_C_Number ?kf_c3_C_Number ?kf_c4_C_Number ?kf_n_C_Number_number ?kf_mk_C_Number ?kf_kC_C_Number ?kf_at_Number_init ?kf_fn_Number_init ?kf_l_Number_init ?kf_c_Number_init ?kf_k_Number_init ?kf_at_Number_worth ?kf_fn_Number_worth ?kf_l_Number_worth ?kf_c_Number_worth ?kf_k_Number_worth ?kf_a_C_Here ?kf_c1_C_Here ?kf_c2_C_Here ?kf_c3_C_Here ?kf_c4_C_Here ?kf_mk_C_Here ?kf_kC_C_Here ?kf_in_C_Here ?kf_at_Here_worth ?kf_fn_Here_worth ?kf_l_Here_worth ?kf_c_Here_worth ?kf_k_Here_worth ?kf_a_C_Cell ?kf_c1_C_Cell ?kf_c2_C_Cell ?kf_c3_C_Cell ?kf_c4_C_Cell ?kf_n_C_Cell_row ?kf_mk_C_Cell ?kf_kC_C_Cell ?kf_at_Cell_init ?kf_fn_Cell_init ?kf_l_Cell_init ?kf_c_Cell_init ?kf_k_Cell_init ?kf_at_Cell_worth ?kf_fn_Cell_worth ?kf_l_Cell_worth ?kf_c_Cell_worth ?kf_k_Cell_worth ?kf_a_C_Shifted ?kf_c1_C_Shifted ?kf_c2_C_Shifted ?kf_c3_C_Shifted ?kf_c4_C_Shifted ?kf_n_C_Shifted_row ?kf_n_C_Shifted_by ?kf_n_C_Shifted_other ?kf_mk_C_Shifted ?kf_kC_C_Shifted ?kf_at_Shifted_init ?kf_fn_Shifted_init ?kf_l_Shifted_init ?kf_c_Shifted_init ?kf_k_Shifted_init ?kf_at_Shifted_worth ?kf_fn_Shifted_worth ?kf_l_Shifted_worth ?kf_c_Shifted_worth ?kf_k_Shifted_worth ?kf_a_C_Local ?kf_c1_C_Local ?kf_c2_C_Local ?kf_c3_C_Local ?kf_c4_C_Local ?kf_n_C_Local_at ?kf_mk_C_Local ?kf_kC_C_Local ?kf_at_Local_init ?kf_fn_Local_init ?kf_l_Local_init ?kf_c_Local_init ?kf_k_Local_init ?kf_at_Local_worth ?kf_fn_Local_worth ?kf_l_Local_worth ?kf_c_Local_worth ?kf_k_Local_worth ?kf_a_C_At ?kf_c1_C_At ?kf_c2_C_At ?kf_c3_C_At ?kf_c4_C_At ?kf_n_C_At_row ?kf_n_C_At_place ?kf_mk_C_At ?kf_kC_C_At ?kf_at_At_init ?kf_fn_At_init ?kf_l_At_init ?kf_c_At_init ?kf_k_At_init ?kf_at_At_worth ?kf_fn_At_worth ?kf_l_At_worth ?kf_c_At_worth ?kf_k_At_worth ?kf_a_C_Pair ?kf_c1_C_Pair ?kf_c2_C_Pair ?kf_c3_C_Pair ?kf_c4_C_Pair ?kf_n_C_Pair_sign ?kf_n_C_Pair_left ?kf_n_C_Pair_right ?kf_mk_C_Pair ?kf_kC_C_Pair ?kf_at_Pair_init ?kf_fn_Pair_init ?kf_l_Pair_init ?kf_c_Pair_init ?kf_k_Pair_init ?kf_at_Pair_worth ?kf_fn_Pair_worth ?kf_l_Pair_worth ?kf_c_Pair_worth ?kf_k_Pair_worth ?kf_a_C_Choice ?kf_c1_C_Choice ?kf_c2_C_Choice ?kf_c3_C_Choice ?kf_c4_C_Choice ?kf_n_C_Choice_test ?kf_n_C_Choice_left ?kf_n_C_Choice_right ?kf_mk_C_Choice ?kf_kC_C_Choice ?kf_at_Choice_init ?kf_fn_Choice_init ?kf_l_Choice_init ?kf_c_Choice_init ?kf_k_Choice_init ?kf_at_Choice_worth ?kf_fn_Choice_worth ?kf_l_Choice_worth ?kf_c_Choice_worth ?kf_k_Choice_worth ?kf_a_C_Call ?kf_c1_C_Call ?kf_c2_C_Call ?kf_c3_C_Call ?kf_c4_C_Call ?kf_n_C_Call_at ?kf_n_C_Call_handed ?kf_mk_C_Call ?kf_kC_C_Call ?kf_at_Call_init ?kf_fn_Call_init ?kf_l_Call_init ?kf_c_Call_init ?kf_k_Call_init ?kf_at_Call_worth ?kf_fn_Call_worth ?kf_l_Call_worth ?kf_c_Call_worth ?kf_k_Call_worth ?kf_a_C_Fold ?kf_c1_C_Fold ?kf_c2_C_Fold ?kf_c3_C_Fold ?kf_c4_C_Fold ?kf_n_C_Fold_target ?kf_n_C_Fold_fold ?kf_n_C_Fold_value ?kf_n_C_Fold_many ?kf_n_C_Fold_test ?kf_mk_C_Fold ?kf_kC_C_Fold ?kf_at_Fold_init ?kf_fn_Fold_init ?kf_l_Fold_init ?kf_c_Fold_init ?kf_k_Fold_init ?kf_lT_Fold_init ?kf_at_Fold_many_of ?kf_fn_Fold_many_of ?kf_l_Fold_many_of ?kf_c_Fold_many_of ?kf_k_Fold_many_of ?kf_a_C_Running ?kf_c1_C_Running ?kf_c2_C_Running ?kf_c3_C_Running ?kf_c4_C_Running ?kf_n_C_Running_target ?kf_n_C_Running_fold ?kf_n_C_Running_value ?kf_n_C_Running_test ?kf_mk_C_Running ?kf_kC_C_Running ?kf_at_Running_init ?kf_fn_Running_init ?kf_l_Running_init ?kf_c_Running_init ?kf_k_Running_init ?kf_lT_Running_init ?kf_at_Running_many_of ?kf_fn_Running_many_of ?kf_l_Running_many_of ?kf_c_Running_many_of ?kf_k_Running_many_of ?kf_a_C_Program ?kf_c1_C_Program ?kf_c2_C_Program ?kf_c3_C_Program ?kf_c4_C_Program ?kf_n_C_Program_lengths ?kf_n_C_Program_functions ?kf_n_C_Program_steps ?kf_mk_C_Program ?kf_kC_C_Program ?kf_at_Program_init ?kf_fn_Program_init ?kf_l_Program_init ?kf_c_Program_init ?kf_k_Program_init ?kf_b_CN ?kf_b_OU ?kf_b_PU ?kf_b_TI ?kf_b_SX ?kf_x_CN ?kf_x_OU ?kf_e1_CN ?kf_e7_CN ?kf_e8_CN ?kf_e2_CN ?kf_e3_CN ?kf_e4_CN ?kf_e5_CN ?kf_e6_CN ?kf_m_CN_CN ?kf_m_OU_CN ?kf_m_OU_OU ?kf_kno ?kf_aH ?kf_aS ?kf_lS ?kf_kS ?kf_g0 ?kf_g1 ?kf_g2 ?kf_g3 ?kf_g4 ?kf_g5 ?kf_g6 ?kf_g7 ?kf_g8 ?kf_g9 ?kf_g10 ?kf_g11 ?kf_k5 ?kf_k6 ?kf_i1_Fold ?kf_i2_Fold ?kf_i3_Fold ?kf_i4_Fold ?kf_kl_Fold_Fold ?kf_kl_Fold_Running ?kf_kl_Fold_Put ?kf_kl_Fold_Till ?kf_kl_Fold_Step ?kf_i1_Running ?kf_i2_Running ?kf_i3_Running ?kf_i4_Running ?kf_kl_Running_Fold ?kf_kl_Running_Running ?kf_kl_Running_Put ?kf_kl_Running_Till ?kf_kl_Running_Step ?kf_kt_tuple ?kf_kt_list ?kf_kt_str ?kf_aC ?kf_aF ?kf_lF ?kf_kF ?kf_aO ?kf_lO ?kf_kO ?kf_h0 ?kf_h1 ?kf_h2 ?kf_h3 ?kf_h4 ?kf_h5 ?kf_h6 ?kf_n1 ?kf_n2 ?kf_lo ?kf_h7 ?kf_h8 ?kf_z_isinstance ?kf_z_int ?kf_z_bool ?kf_z_min ?kf_z_max ?kf_z_len ?kf_z_range ?kf_z_sum ?kf_z_list ?kf_z_tuple ?kf_z_str
    (case kf_a_kept => k_is)
    (case kf_l_kept => k_is)
    (case kf_c_kept => k_is)
    (case kf_k_kept => k_is)
    (case kf_a_plus => k_is)
    (case kf_l_plus => k_is)
    (case kf_c_plus => k_is)
    (case kf_k_plus => k_is)
    (case kf_a_minus => k_is)
    (case kf_l_minus => k_is)
    (case kf_c_minus => k_is)
    (case kf_k_minus => k_is)
    (case kf_a_times => k_is)
    (case kf_l_times => k_is)
    (case kf_c_times => k_is)
    (case kf_k_times => k_is)
    (case kf_a_refuse_nought => k_is)
    (case kf_l_refuse_nought => k_is)
    (case kf_c_refuse_nought => k_is)
    (case kf_k_refuse_nought => k_is)
    (case kf_a_quotient => k_is)
    (case kf_l_quotient => k_is)
    (case kf_c_quotient => k_is)
    (case kf_k_quotient => k_is)
    (case kf_a_remainder => k_is)
    (case kf_l_remainder => k_is)
    (case kf_c_remainder => k_is)
    (case kf_k_remainder => k_is)
    (case kf_a_lesser => k_is)
    (case kf_l_lesser => k_is)
    (case kf_c_lesser => k_is)
    (case kf_k_lesser => k_is)
    (case kf_a_greater => k_is)
    (case kf_l_greater => k_is)
    (case kf_c_greater => k_is)
    (case kf_k_greater => k_is)
    (case kf_a_is_less => k_is)
    (case kf_l_is_less => k_is)
    (case kf_c_is_less => k_is)
    (case kf_k_is_less => k_is)
    (case kf_a_is_equal => k_is)
    (case kf_l_is_equal => k_is)
    (case kf_c_is_equal => k_is)
    (case kf_k_is_equal => k_is)
    (case kf_a_bits_of_both => k_is)
    (case kf_l_bits_of_both => k_is)
    (case kf_c_bits_of_both => k_is)
    (case kf_k_bits_of_both => k_is)
    (case kf_a_bits_of_either => k_is)
    (case kf_l_bits_of_either => k_is)
    (case kf_c_bits_of_either => k_is)
    (case kf_k_bits_of_either => k_is)
    (case kf_a_bits_of_one => k_is)
    (case kf_l_bits_of_one => k_is)
    (case kf_c_bits_of_one => k_is)
    (case kf_k_bits_of_one => k_is)
    (case kf_a_chained => k_is)
    (case kf_l_chained => k_is)
    (case kf_c_chained => k_is)
    (case kf_k_chained => k_is)
    (case kf_a_capped => k_is)
    (case kf_l_capped => k_is)
    (case kf_c_capped => k_is)
    (case kf_k_capped => k_is)
    (case kf_a_done => k_is)
    (case kf_l_done => k_is)
    (case kf_c_done => k_is)
    (case kf_k_done => k_is)
    (case kf_a_free => k_is)
    (case kf_l_free => k_is)
    (case kf_c_free => k_is)
    (case kf_k_free => k_is)
    (case kf_a_joined => k_is)
    (case kf_l_joined => k_is)
    (case kf_c_joined => k_is)
    (case kf_k_joined => k_is)
    (case kf_a_start_of => k_is)
    (case kf_l_start_of => k_is)
    (case kf_c_start_of => k_is)
    (case kf_k_start_of => k_is)
    (case kf_a_lies_in => k_is)
    (case kf_l_lies_in => k_is)
    (case kf_c_lies_in => k_is)
    (case kf_k_lies_in => k_is)
    (case kf_a_cell_at => k_is)
    (case kf_l_cell_at => k_is)
    (case kf_c_cell_at => k_is)
    (case kf_k_cell_at => k_is)
    (case kf_a_count_of => k_is)
    (case kf_l_count_of => k_is)
    (case kf_c_count_of => k_is)
    (case kf_k_count_of => k_is)
    (case kf_a_is_passed_over => k_is)
    (case kf_l_is_passed_over => k_is)
    (case kf_c_is_passed_over => k_is)
    (case kf_k_is_passed_over => k_is)
    (case kf_a_number_to_lay => k_is)
    (case kf_l_number_to_lay => k_is)
    (case kf_c_number_to_lay => k_is)
    (case kf_k_number_to_lay => k_is)
    (case kf_a_place_put => k_is)
    (case kf_l_place_put => k_is)
    (case kf_c_place_put => k_is)
    (case kf_k_place_put => k_is)
    (case kf_a_place_to_lay => k_is)
    (case kf_l_place_to_lay => k_is)
    (case kf_c_place_to_lay => k_is)
    (case kf_k_place_to_lay => k_is)
    (case kf_a_element_played => k_is)
    (case kf_l_element_played => k_is)
    (case kf_c_element_played => k_is)
    (case kf_k_element_played => k_is)
    (case kf_a_elements_played => k_is)
    (case kf_l_elements_played => k_is)
    (case kf_c_elements_played => k_is)
    (case kf_k_elements_played => k_is)
    (case kf_a_till_played => k_is)
    (case kf_l_till_played => k_is)
    (case kf_c_till_played => k_is)
    (case kf_k_till_played => k_is)
    (case kf_a_steps_played => k_is)
    (case kf_l_steps_played => k_is)
    (case kf_c_steps_played => k_is)
    (case kf_k_steps_played => k_is)
    (case kf_a_played => k_is)
    (case kf_l_played => k_is)
    (case kf_c_played => k_is)
    (case kf_k_played => k_is)
    (case kf_a_l_whole => k_is)
    (case kf_l_l_whole => k_is)
    (case kf_c_l_whole => k_is)
    (case kf_k_l_whole => k_is)
    (case kf_a_l_kept_by => k_is)
    (case kf_l_l_kept_by => k_is)
    (case kf_c_l_kept_by => k_is)
    (case kf_k_l_kept_by => k_is)
    (case kf_a_l_mix => k_is)
    (case kf_l_l_mix => k_is)
    (case kf_c_l_mix => k_is)
    (case kf_k_l_mix => k_is)
    (case kf_a_l_asked => k_is)
    (case kf_l_l_asked => k_is)
    (case kf_c_l_asked => k_is)
    (case kf_k_l_asked => k_is)
    (case kf_a_l_functions => k_is)
    (case kf_l_l_functions => k_is)
    (case kf_c_l_functions => k_is)
    (case kf_k_l_functions => k_is)
    (case kf_a_l_leaf_by => k_is)
    (case kf_l_l_leaf_by => k_is)
    (case kf_c_l_leaf_by => k_is)
    (case kf_k_l_leaf_by => k_is)
    (case kf_a_l_value_by => k_is)
    (case kf_l_l_value_by => k_is)
    (case kf_c_l_value_by => k_is)
    (case kf_k_l_value_by => k_is)
    (case kf_a_l_lengths_by => k_is)
    (case kf_l_l_lengths_by => k_is)
    (case kf_c_l_lengths_by => k_is)
    (case kf_k_l_lengths_by => k_is)
    (case kf_a_l_cells_by => k_is)
    (case kf_l_l_cells_by => k_is)
    (case kf_c_l_cells_by => k_is)
    (case kf_k_l_cells_by => k_is)
    (case kf_a_l_element => k_is)
    (case kf_l_l_element => k_is)
    (case kf_c_l_element => k_is)
    (case kf_k_l_element => k_is)
    (case kf_a_l_told => k_is)
    (case kf_l_l_told => k_is)
    (case kf_c_l_told => k_is)
    (case kf_k_l_told => k_is)
    (case kf_a_l_joined => k_is)
    (case kf_l_l_joined => k_is)
    (case kf_c_l_joined => k_is)
    (case kf_k_l_joined => k_is)
    (case kf_a_l_fold_by => k_is)
    (case kf_l_l_fold_by => k_is)
    (case kf_c_l_fold_by => k_is)
    (case kf_k_l_fold_by => k_is)
    (case kf_a_l_target_by => k_is)
    (case kf_l_l_target_by => k_is)
    (case kf_c_l_target_by => k_is)
    (case kf_k_l_target_by => k_is)
    (case kf_a_l_many_by => k_is)
    (case kf_l_l_many_by => k_is)
    (case kf_c_l_many_by => k_is)
    (case kf_k_l_many_by => k_is)
    (case kf_a_l_step_by => k_is)
    (case kf_l_l_step_by => k_is)
    (case kf_c_l_step_by => k_is)
    (case kf_k_l_step_by => k_is)
    (case kf_a_l_due => k_is)
    (case kf_l_l_due => k_is)
    (case kf_c_l_due => k_is)
    (case kf_k_l_due => k_is)
    (case kf_a_law => k_is)
    (case kf_l_law => k_is)
    (case kf_c_law => k_is)
    (case kf_k_law => k_is)
    (case kf_a_C_Spot => k_is)
    (case kf_c1_C_Spot => k_is)
    (case kf_c2_C_Spot => k_is)
    (case kf_c3_C_Spot => k_is)
    (case kf_c4_C_Spot => k_is)
    (case kf_n_C_Spot_lengths => k_is)
    (case kf_n_C_Spot_functions => k_is)
    (case kf_n_C_Spot_cells => k_is)
    (case kf_n_C_Spot_place => k_is)
    (case kf_n_C_Spot_own => k_is)
    (case kf_mk_C_Spot => k_is)
    (case kf_kC_C_Spot => k_is)
    (case kf_at_Spot_init => k_is)
    (case kf_fn_Spot_init => k_is)
    (case kf_l_Spot_init => k_is)
    (case kf_c_Spot_init => k_is)
    (case kf_k_Spot_init => k_is)
    (case kf_a_C_Number => k_is)
    (case kf_c1_C_Number => k_is)
    (case kf_c2_C_Number => k_is)
    (case kf_c3_C_Number => k_is)
    (case kf_c4_C_Number => k_is)
    (case kf_n_C_Number_number => k_is)
    (case kf_mk_C_Number => k_is)
    (case kf_kC_C_Number => k_is)
    (case kf_at_Number_init => k_is)
    (case kf_fn_Number_init => k_is)
    (case kf_l_Number_init => k_is)
    (case kf_c_Number_init => k_is)
    (case kf_k_Number_init => k_is)
    (case kf_at_Number_worth => k_is)
    (case kf_fn_Number_worth => k_is)
    (case kf_l_Number_worth => k_is)
    (case kf_c_Number_worth => k_is)
    (case kf_k_Number_worth => k_is)
    (case kf_a_C_Here => k_is)
    (case kf_c1_C_Here => k_is)
    (case kf_c2_C_Here => k_is)
    (case kf_c3_C_Here => k_is)
    (case kf_c4_C_Here => k_is)
    (case kf_mk_C_Here => k_is)
    (case kf_kC_C_Here => k_is)
    (case kf_in_C_Here => k_is)
    (case kf_at_Here_worth => k_is)
    (case kf_fn_Here_worth => k_is)
    (case kf_l_Here_worth => k_is)
    (case kf_c_Here_worth => k_is)
    (case kf_k_Here_worth => k_is)
    (case kf_a_C_Cell => k_is)
    (case kf_c1_C_Cell => k_is)
    (case kf_c2_C_Cell => k_is)
    (case kf_c3_C_Cell => k_is)
    (case kf_c4_C_Cell => k_is)
    (case kf_n_C_Cell_row => k_is)
    (case kf_mk_C_Cell => k_is)
    (case kf_kC_C_Cell => k_is)
    (case kf_at_Cell_init => k_is)
    (case kf_fn_Cell_init => k_is)
    (case kf_l_Cell_init => k_is)
    (case kf_c_Cell_init => k_is)
    (case kf_k_Cell_init => k_is)
    (case kf_at_Cell_worth => k_is)
    (case kf_fn_Cell_worth => k_is)
    (case kf_l_Cell_worth => k_is)
    (case kf_c_Cell_worth => k_is)
    (case kf_k_Cell_worth => k_is)
    (case kf_a_C_Shifted => k_is)
    (case kf_c1_C_Shifted => k_is)
    (case kf_c2_C_Shifted => k_is)
    (case kf_c3_C_Shifted => k_is)
    (case kf_c4_C_Shifted => k_is)
    (case kf_n_C_Shifted_row => k_is)
    (case kf_n_C_Shifted_by => k_is)
    (case kf_n_C_Shifted_other => k_is)
    (case kf_mk_C_Shifted => k_is)
    (case kf_kC_C_Shifted => k_is)
    (case kf_at_Shifted_init => k_is)
    (case kf_fn_Shifted_init => k_is)
    (case kf_l_Shifted_init => k_is)
    (case kf_c_Shifted_init => k_is)
    (case kf_k_Shifted_init => k_is)
    (case kf_at_Shifted_worth => k_is)
    (case kf_fn_Shifted_worth => k_is)
    (case kf_l_Shifted_worth => k_is)
    (case kf_c_Shifted_worth => k_is)
    (case kf_k_Shifted_worth => k_is)
    (case kf_a_C_Local => k_is)
    (case kf_c1_C_Local => k_is)
    (case kf_c2_C_Local => k_is)
    (case kf_c3_C_Local => k_is)
    (case kf_c4_C_Local => k_is)
    (case kf_n_C_Local_at => k_is)
    (case kf_mk_C_Local => k_is)
    (case kf_kC_C_Local => k_is)
    (case kf_at_Local_init => k_is)
    (case kf_fn_Local_init => k_is)
    (case kf_l_Local_init => k_is)
    (case kf_c_Local_init => k_is)
    (case kf_k_Local_init => k_is)
    (case kf_at_Local_worth => k_is)
    (case kf_fn_Local_worth => k_is)
    (case kf_l_Local_worth => k_is)
    (case kf_c_Local_worth => k_is)
    (case kf_k_Local_worth => k_is)
    (case kf_a_C_At => k_is)
    (case kf_c1_C_At => k_is)
    (case kf_c2_C_At => k_is)
    (case kf_c3_C_At => k_is)
    (case kf_c4_C_At => k_is)
    (case kf_n_C_At_row => k_is)
    (case kf_n_C_At_place => k_is)
    (case kf_mk_C_At => k_is)
    (case kf_kC_C_At => k_is)
    (case kf_at_At_init => k_is)
    (case kf_fn_At_init => k_is)
    (case kf_l_At_init => k_is)
    (case kf_c_At_init => k_is)
    (case kf_k_At_init => k_is)
    (case kf_at_At_worth => k_is)
    (case kf_fn_At_worth => k_is)
    (case kf_l_At_worth => k_is)
    (case kf_c_At_worth => k_is)
    (case kf_k_At_worth => k_is)
    (case kf_a_C_Pair => k_is)
    (case kf_c1_C_Pair => k_is)
    (case kf_c2_C_Pair => k_is)
    (case kf_c3_C_Pair => k_is)
    (case kf_c4_C_Pair => k_is)
    (case kf_n_C_Pair_sign => k_is)
    (case kf_n_C_Pair_left => k_is)
    (case kf_n_C_Pair_right => k_is)
    (case kf_mk_C_Pair => k_is)
    (case kf_kC_C_Pair => k_is)
    (case kf_at_Pair_init => k_is)
    (case kf_fn_Pair_init => k_is)
    (case kf_l_Pair_init => k_is)
    (case kf_c_Pair_init => k_is)
    (case kf_k_Pair_init => k_is)
    (case kf_at_Pair_worth => k_is)
    (case kf_fn_Pair_worth => k_is)
    (case kf_l_Pair_worth => k_is)
    (case kf_c_Pair_worth => k_is)
    (case kf_k_Pair_worth => k_is)
    (case kf_a_C_Choice => k_is)
    (case kf_c1_C_Choice => k_is)
    (case kf_c2_C_Choice => k_is)
    (case kf_c3_C_Choice => k_is)
    (case kf_c4_C_Choice => k_is)
    (case kf_n_C_Choice_test => k_is)
    (case kf_n_C_Choice_left => k_is)
    (case kf_n_C_Choice_right => k_is)
    (case kf_mk_C_Choice => k_is)
    (case kf_kC_C_Choice => k_is)
    (case kf_at_Choice_init => k_is)
    (case kf_fn_Choice_init => k_is)
    (case kf_l_Choice_init => k_is)
    (case kf_c_Choice_init => k_is)
    (case kf_k_Choice_init => k_is)
    (case kf_at_Choice_worth => k_is)
    (case kf_fn_Choice_worth => k_is)
    (case kf_l_Choice_worth => k_is)
    (case kf_c_Choice_worth => k_is)
    (case kf_k_Choice_worth => k_is)
    (case kf_a_C_Call => k_is)
    (case kf_c1_C_Call => k_is)
    (case kf_c2_C_Call => k_is)
    (case kf_c3_C_Call => k_is)
    (case kf_c4_C_Call => k_is)
    (case kf_n_C_Call_at => k_is)
    (case kf_n_C_Call_handed => k_is)
    (case kf_mk_C_Call => k_is)
    (case kf_kC_C_Call => k_is)
    (case kf_at_Call_init => k_is)
    (case kf_fn_Call_init => k_is)
    (case kf_l_Call_init => k_is)
    (case kf_c_Call_init => k_is)
    (case kf_k_Call_init => k_is)
    (case kf_at_Call_worth => k_is)
    (case kf_fn_Call_worth => k_is)
    (case kf_l_Call_worth => k_is)
    (case kf_c_Call_worth => k_is)
    (case kf_k_Call_worth => k_is)
    (case kf_a_C_Fold => k_is)
    (case kf_c1_C_Fold => k_is)
    (case kf_c2_C_Fold => k_is)
    (case kf_c3_C_Fold => k_is)
    (case kf_c4_C_Fold => k_is)
    (case kf_n_C_Fold_target => k_is)
    (case kf_n_C_Fold_fold => k_is)
    (case kf_n_C_Fold_value => k_is)
    (case kf_n_C_Fold_many => k_is)
    (case kf_n_C_Fold_test => k_is)
    (case kf_mk_C_Fold => k_is)
    (case kf_kC_C_Fold => k_is)
    (case kf_at_Fold_init => k_is)
    (case kf_fn_Fold_init => k_is)
    (case kf_l_Fold_init => k_is)
    (case kf_c_Fold_init => k_is)
    (case kf_k_Fold_init => k_is)
    (case kf_lT_Fold_init => k_is)
    (case kf_at_Fold_many_of => k_is)
    (case kf_fn_Fold_many_of => k_is)
    (case kf_l_Fold_many_of => k_is)
    (case kf_c_Fold_many_of => k_is)
    (case kf_k_Fold_many_of => k_is)
    (case kf_a_C_Running => k_is)
    (case kf_c1_C_Running => k_is)
    (case kf_c2_C_Running => k_is)
    (case kf_c3_C_Running => k_is)
    (case kf_c4_C_Running => k_is)
    (case kf_n_C_Running_target => k_is)
    (case kf_n_C_Running_fold => k_is)
    (case kf_n_C_Running_value => k_is)
    (case kf_n_C_Running_test => k_is)
    (case kf_mk_C_Running => k_is)
    (case kf_kC_C_Running => k_is)
    (case kf_at_Running_init => k_is)
    (case kf_fn_Running_init => k_is)
    (case kf_l_Running_init => k_is)
    (case kf_c_Running_init => k_is)
    (case kf_k_Running_init => k_is)
    (case kf_lT_Running_init => k_is)
    (case kf_at_Running_many_of => k_is)
    (case kf_fn_Running_many_of => k_is)
    (case kf_l_Running_many_of => k_is)
    (case kf_c_Running_many_of => k_is)
    (case kf_k_Running_many_of => k_is)
    (case kf_a_C_Program => k_is)
    (case kf_c1_C_Program => k_is)
    (case kf_c2_C_Program => k_is)
    (case kf_c3_C_Program => k_is)
    (case kf_c4_C_Program => k_is)
    (case kf_n_C_Program_lengths => k_is)
    (case kf_n_C_Program_functions => k_is)
    (case kf_n_C_Program_steps => k_is)
    (case kf_mk_C_Program => k_is)
    (case kf_kC_C_Program => k_is)
    (case kf_at_Program_init => k_is)
    (case kf_fn_Program_init => k_is)
    (case kf_l_Program_init => k_is)
    (case kf_c_Program_init => k_is)
    (case kf_k_Program_init => k_is)
    (case kf_b_CN => k_is)
    (case kf_b_OU => k_is)
    (case kf_b_PU => k_is)
    (case kf_b_TI => k_is)
    (case kf_b_SX => k_is)
    (case kf_x_CN => k_exc)
    (case kf_x_OU => k_exc)
    (case kf_e1_CN => k_is)
    (case kf_e7_CN => k_is)
    (case kf_e8_CN => k_is)
    (case kf_e2_CN => k_is)
    (case kf_e3_CN => k_is)
    (case kf_e4_CN => k_is)
    (case kf_e5_CN => k_is)
    (case kf_e6_CN => k_is)
    (case kf_m_CN_CN => kts_exm)
    (case kf_m_OU_CN => kts_exm)
    (case kf_m_OU_OU => kts_exm)
    (case kf_kno => kit_is)
    (case kf_aH => k_is)
    (case kf_aS => k_is)
    (case kf_lS => k_is)
    (case kf_kS => k_keys)
    (case kf_g0 => k_is)
    (case kf_g1 => k_is)
    (case kf_g2 => k_is)
    (case kf_g3 => k_is)
    (case kf_g4 => k_is)
    (case kf_g5 => k_is)
    (case kf_g6 => k_is)
    (case kf_g7 => k_is)
    (case kf_g8 => k_is)
    (case kf_g9 => k_is)
    (case kf_g10 => k_is)
    (case kf_g11 => k_is)
    (case kf_k5 => kit_is)
    (case kf_k6 => kit_is)
    (case kf_i1_Fold => k_is)
    (case kf_i2_Fold => k_is)
    (case kf_i3_Fold => k_is)
    (case kf_i4_Fold => k_is)
    (case kf_kl_Fold_Fold => kit_is)
    (case kf_kl_Fold_Running => kit_is)
    (case kf_kl_Fold_Put => kit_is)
    (case kf_kl_Fold_Till => kit_is)
    (case kf_kl_Fold_Step => kit_is)
    (case kf_i1_Running => k_is)
    (case kf_i2_Running => k_is)
    (case kf_i3_Running => k_is)
    (case kf_i4_Running => k_is)
    (case kf_kl_Running_Fold => kit_is)
    (case kf_kl_Running_Running => kit_is)
    (case kf_kl_Running_Put => kit_is)
    (case kf_kl_Running_Till => kit_is)
    (case kf_kl_Running_Step => kit_is)
    (case kf_kt_tuple => kit_is)
    (case kf_kt_list => kit_is)
    (case kf_kt_str => kit_is)
    (case kf_aC => k_is)
    (case kf_aF => k_is)
    (case kf_lF => k_is)
    (case kf_kF => k_keys)
    (case kf_aO => k_is)
    (case kf_lO => k_is)
    (case kf_kO => k_keys)
    (case kf_h0 => k_is)
    (case kf_h1 => k_is)
    (case kf_h2 => k_is)
    (case kf_h3 => k_is)
    (case kf_h4 => k_is)
    (case kf_h5 => k_is)
    (case kf_h6 => k_is)
    (case kf_n1 => k_is)
    (case kf_n2 => k_is)
    (case kf_lo => rfl)
    (case kf_h7 => k_is)
    (case kf_h8 => k_is)
    (case kf_z_isinstance => k_is)
    (case kf_z_int => k_is)
    (case kf_z_bool => k_is)
    (case kf_z_min => k_is)
    (case kf_z_max => k_is)
    (case kf_z_len => k_is)
    (case kf_z_range => k_is)
    (case kf_z_sum => k_is)
    (case kf_z_list => k_is)
    (case kf_z_tuple => k_is)
    (case kf_z_str => k_is)


